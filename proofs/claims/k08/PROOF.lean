import PyProof.Rows.All
import Wide.All
import OpenK.AllK
import Wide.FinOn
import HandS.ForMost
import HandS.Strs
import HandS.SetFor
import PyProof.Rows.SetFrom
import HandS.IsInst
import HandS.RaiseMore
import PyProof.ReprRoads
import KE.KDictPairs
import HandS.TupAny
import HandS.Iter
import HandS.Walk
import KE.GoesEnum
import HandS.ForExc
import HandS.ExcOwn
import HandS.WordsExc
import HandS.ExcIs
import HandS.SlotsOwn
import KE.KTypeName
import HandS.ExcInit
import HandS.Style
import HandS.Flow
import HandS.Codes
import HandS.Conv
import HandS.Defaults
import PySem.Challenge.RW_neverfour_k08_rows_along_layings
import HandS.TupMul
import HandS.Zip
import HandS.Deep
import HandS.Lambda
import PyProof.ReprBulk
import PyProof.CallFns
import HandS.WordsDict
import HandS.DictComp
import HandS.TryOnly
import KE.KTupSum
import KE.KTurns
import HandS.EndTab
import HandS.NestedK
set_option Elab.async false
set_option linter.all false
set_option maxRecDepth 100000
namespace Nv
open PySem PySem.Spec PyProof.Rows L2
section
variable {P : Program} {w : World} {A : Around} {E : Value → Shared → Prop} {s : Shared}
/-- an empty set as set(..) begins it -/
abbrev noSet (w : World) : Obj := { cls := .type "set", dict := none, data := .set #[] 0 (.fresh 0 0 (!w.params.followText "set-order")) }

/-- set.__init__ of a list of ints -/
theorem fillSet {S l : Addr} {xs : Array Value} {ns : List Int} {Q : Value → Shared → Prop} (quiet : A.handled = none)
    (hS : s.heap.get? S = some (noSet w)) (hl : s.heap.IsList l xs) (hi : IntsAre xs.toList ns) (room : ns.length + 1 < scanBound)
    (k : ∀ (g : Heap) (t c : Nat), SetR w g S (fun j => decide (j ∈ ns)) c → c ≤ ns.length → (∀ b o, b ≠ S → s.heap.get? b = some o → g.get? b = some o) → Q .none { s with heap := g, toks := t }) :
    codeAny (model P w) A (.call (.builtin "set.__init__") ⟨[.ref S, .ref l], []⟩) (wants Q E) s := by
  have sz : xs.size = ns.length := by have q := IntsAre.length hi; rwa [Array.length_toList] at q
  refine codeAny_call_builtin F.called_set.init.plain F.entry_set_init (check_set_init_1 ⟨_, hS, rfl⟩ ?_)
  obtain ⟨⟨lc, ld, ldata, lsl⟩, hol, hcl, nl, hdl⟩ := hl
  simp only at hcl hdl
  subst hcl hdl
  have sub1 := F.sub_list_set
  have sub2 := F.sub_list_frozenset
  have nodict : (Value.type "list" == Value.type "dict") = false := by decide
  have lst : s.heap.IsList l xs := ⟨_, hol, rfl, nl, rfl⟩
  have lS : l ≠ S := fun e => by
    subst e
    exact absurd (congrArg Obj.cls (Option.some.inj (hol.symm.trans hS))) (show ¬ Value.type "list" = Value.type "set" by decide)
  unfold Builtin.«set.__init__» noKeywords Builtin.Frozenset.updateFrom
  generalize hPI : pyIter = PI
  wp_walk
  subst hPI
  refine wpAny_pyIter_list lst ?_
  refine wpAny_bind (wpAny_runValue ?_)
  have lt1 : l < s.heap.objs.size := Heap.lt_size hol
  have lt2 : S < s.heap.objs.size := Heap.lt_size hS
  have q3 : A.in1.in1.handled = none := by simp [quiet]
  have apart : S ∉ [s.heap.objs.size, l] := by
    intro z
    rcases List.mem_cons.mp z with e | z
    · exact absurd e (Nat.ne_of_lt lt2)
    · exact lS (List.mem_singleton.mp z).symm
  have each : ∀ (i : Nat) (v : Value), xs[i]? = some v → ∃ n t, ns[i]? = some n ∧ v = .int n t := fun i v hv => by
    have b : i < ns.length := by rw [← sz]; exact (Array.getElem?_eq_some_iff.mp hv).1
    obtain ⟨t, e⟩ := IntsAre.int_at hi i v (by rw [Array.getElem?_toList]; exact hv)
    refine ⟨ns[i], t, List.getElem?_eq_getElem b, ?_⟩
    rw [e, List.getD_eq_getElem?_getD, List.getElem?_eq_getElem b]
    rfl
  refine set_update_ints ((Walks.list q3 s.heap.objs.size l (Nat.ne_of_lt lt1) xs).toS) S apart ns sz room each (xs.size - 0) 0 _ (by omega) (Nat.zero_le _) ⟨⟨_, Heap.get?_push_size _ rfl, rfl, rfl⟩, lst.push _⟩ ?z ?r
  case z => exact ⟨0, Nat.le_refl 0, setR_new_at (Heap.get?_push_of_some _ hS)⟩
  case r =>
    intro s2 c mv hc R
    obtain ⟨g, g2, d2, t2, o2⟩ := s2
    have e1 : g2 = s.gens := mv.gens
    have e2 : d2 = s.drawn := mv.drawn
    have e3 : o2 = s.os := mv.os
    subst e1 e2 e3
    show wpAny _ _ _ _ _ _
    refine wpAny_pure ?_
    show wpAny _ _ (ret Value.none) _ _ _
    rw [sz] at hc
    refine wpAny_pure (k g t2 c R hc fun b o nb e => ?_)
    have hb : b < s.heap.objs.size := Heap.lt_size e
    refine mv.heap b o (fun z => ?_) (Heap.get?_push_of_some _ e)
    rcases List.mem_cons.mp z with z | z
    · exact nb z
    · exact absurd (List.mem_singleton.mp z) (Nat.ne_of_lt hb)
/-- set(l), l a list of ints -/
theorem setOf {l : Addr} {xs : Array Value} {ns : List Int} {Q : Value → Shared → Prop} (quiet : A.handled = none) (hl : s.heap.IsList l xs) (hi : IntsAre xs.toList ns) (room : ns.length + 1 < scanBound)
    (k : ∀ (g : Heap) (t c : Nat), SetR w g s.heap.objs.size (fun j => decide (j ∈ ns)) c → c ≤ ns.length → (∀ b o, s.heap.get? b = some o → g.get? b = some o) → Q (.ref s.heap.objs.size) { s with heap := g, toks := t }) :
    wpAny (model P w) A (call (.type "set") [.ref l]) Q E s := by
  obtain ⟨c0, tl, mro⟩ := F.called_set.mro
  have made := F.called_set.made
  have sub := F.called_set.sub
  refine wpAny_call (codeAny_of_tree ?_)
  show wpAny _ _ (callAny (.type "set") _) _ _ _
  refine wpAny_pure ⟨Code.quiet_builtin _ (by decide +kernel), codeAny_builtin F.entry_type_call ?_⟩
  rw [Around.under_plain (weight_type_call_type "set" [.ref l] []) rfl]
  have f1 := F.called_set.notType
  have f2 := F.called_set.canCreate
  have f3 := F.typeCall_set_1 (.ref l)
  repeat (any_goals (first | assumption | wp_step))
  refine codeAny_mono (code_set_led1 (w := w) (.ref l) (E := E) (Q₁ := fun v s1 => v = .ref s.heap.objs.size ∧ s1 = { s with heap := s.heap.push (noSet w) }) ⟨rfl, rfl⟩) fun r s1 hr => ?_
  rcases r with e | fl
  · exact hr
  · cases fl with
    | ret v =>
      obtain ⟨rfl, rfl⟩ := hr
      have at0 : (s.heap.push (noSet w)).get? s.heap.objs.size = some (noSet w) := Heap.get?_push_size _ rfl
      have ty : Shared.TypeIs { s with heap := s.heap.push (noSet w) } (.ref s.heap.objs.size) "set" := ⟨_, at0, rfl⟩
      have f4 := F.called_set.init.lookup
      have f5 := F.called_set.init.bind (.ref s.heap.objs.size)
      repeat (any_goals (first | assumption | wp_step))
      refine codeAny_mono (fillSet (E := E) (Q := fun v s2 => v = .none ∧ ∃ g t c, s2 = { s with heap := g, toks := t } ∧ SetR w g s.heap.objs.size (fun j => decide (j ∈ ns)) c ∧ c ≤ ns.length ∧ ∀ b o, s.heap.get? b = some o → g.get? b = some o)
        (by simp [quiet]) at0 (hl.push _) hi room fun g t c R hc kp => ⟨rfl, g, t, c, rfl, R, hc, fun b o e => kp b o (Nat.ne_of_lt (Heap.lt_size e)) (Heap.get?_push_of_some _ e)⟩) fun r2 s2 hr2 => ?_
      rcases r2 with e | fl2
      · exact hr2
      · cases fl2 with
        | ret v2 =>
          obtain ⟨rfl, g, t, c, rfl, R, hc, kp⟩ := hr2
          repeat (any_goals (first | assumption | wp_step))
          exact k g t c R hc kp
        | _ => exact hr2.elim
    | _ => exact hr.elim
end
/-- set(l): the new set -/
def rSetI (K : PySem.W.Frag) (w : World) : List V → Hp → VK → Prop := fun xs H Q => ∃ (l : Addr) (ns : List Int), xs = [.ref l] ∧ SqL K H l (ns.map V.int) ∧ ns.length ≤ 4000 ∧ ∀ (p : Addr) (c : Nat), H p = none → c ≤ ns.length → Q (.ref p) (upd H p (SetO w p (fun j => decide (j ∈ ns)) c))
theorem cr_setI {X : Cx} (hc : X.calm = true) : CallR X (.type "set") (rSetI X.K X.w) := by
  intro pins s σ H xs us Q I r h
  obtain ⟨l, ns, rfl, hq, hz, q⟩ := h
  obtain ⟨u, rfl, rx⟩ := vals1 r
  cases rx
  obtain ⟨its, rv, ⟨o, n, ho, hcl, hd, hdat⟩, _⟩ := I.list hq
  refine setOf (I.ok.hd hc) (show s.heap.IsList l its.toArray from ⟨o, ho, hcl, n, hdat⟩) (ints_of_vals rv) (by unfold scanBound; omega) fun g t c R hcn kp => ?_
  have new : H s.heap.objs.size = none := I.hok.fresh (Nat.le_refl _)
  exact ⟨.ref s.heap.objs.size, upd H s.heap.objs.size (SetO X.w s.heap.objs.size (fun j => decide (j ∈ ns)) c), I.laid (t' := t) kp (Nat.le_refl _) (setO_new R), rfl, q _ c new hcn⟩
end Nv
set_option Elab.async false
set_option linter.all false
set_option maxRecDepth 100000
namespace Nv
open PySem PySem.Spec PyProof.Rows L2
/-! ### tuples whose object is known to have no dict of its own -/
def TupZ (H : Hp) (a : Addr) (xs : List V) : Prop := ∃ o : Obj, H a = some (.frz o (.tup xs)) ∧ o.dict = none
theorem TupZ.sq {K : PySem.W.Frag} {H : Hp} {a : Addr} {xs : List V} (h : TupZ H a xs) : SqT K H a xs := by
  obtain ⟨o, e, _⟩ := h
  exact .inl (.inr ⟨o, e⟩)
def rTupZ (K : PySem.W.Frag) : List V → Hp → VK → Prop := fun xs H Q => ∃ (p : Addr) (ys : List V), xs = [.ref p] ∧ SqL K H p ys ∧ ∀ (l : Addr) (H' : Hp), H l = none → (∃ o : Obj, o.dict = none ∧ H' = upd H l (.frz o (.tup ys))) → Q (.ref l) H'
theorem call_tupZ {X : Cx} : CallR X (.type "tuple") (rTupZ X.K) := by
  intro pins s σ H xs us Q I r h
  obtain ⟨p, ys, rfl, hq, q⟩ := h
  obtain ⟨u, rfl, rx⟩ := vals1 r
  cases rx
  obtain ⟨its, rv, pl, hz⟩ := I.list hq
  have hlen := rv.length
  refine call_tuple_list pl.isList (fun g kp => ?_) (by simp only [List.size_toArray]; omega)
  have I1 : Inv X pins σ H { s with heap := g } := I.kept (t' := s.toks) kp
  have I2 : Inv X pins σ (upd H g.objs.size (.frz { cls := .type "tuple", data := .seq its.toArray } (.tup ys))) { s with heap := g.push { cls := .type "tuple", data := .seq its.toArray } } :=
    I1.laid (t' := s.toks) (fun b o e => Heap.get?_push_of_some _ e) (Nat.le_refl _) (show ObjOk X.prog X.w _ _ _ (.frz _ (.tup ys)) from ⟨Heap.get?_push_size _ rfl, hz, its, rv, IsTup.new _ _⟩)
  exact ⟨.ref g.objs.size, _, I2, rfl, q _ _ (I1.hok.fresh (Nat.le_refl _)) ⟨_, rfl, rfl⟩⟩

theorem pickL {α : Type} {n : Nat} {R : Nat → α → Prop} (h : ∀ j, j < n → ∃ x, R j x) : ∃ l : List α, l.length = n ∧ ∀ j x, l[j]? = some x → R j x := by
  induction n with
  | zero => exact ⟨[], rfl, fun j x e => by simp at e⟩
  | succ n ih =>
    obtain ⟨l, hl, hR⟩ := ih fun j hj => h j (Nat.lt_succ_of_lt hj)
    obtain ⟨x, hx⟩ := h n (Nat.lt_succ_self n)
    refine ⟨l ++ [x], by simp [hl], fun j y e => ?_⟩
    by_cases hj : j < n
    · rw [List.getElem?_append_left (by omega)] at e
      exact hR j y e
    · rw [List.getElem?_append_right (by omega)] at e
      have hj2 : j = n := by
        have := (List.getElem?_eq_some_iff.mp e).1
        simp at this
        omega
      subst hj2
      rw [hl, Nat.sub_self] at e
      cases e
      exact hx
/-! ### dict(t), t such a tuple of pairs -/
def rDictT (K : PySem.W.Frag) : List V → Hp → VK → Prop := fun xs H Q => ∃ (a : Addr) (ps : List Addr) (kvs : List (Key × V)), xs = [.ref a] ∧ TupZ H a (ps.map V.ref) ∧ Paired (fun p kv => SqT K H p [kV kv.1, kv.2]) ps kvs ∧
  ∀ p, H p = none → Q (.ref p) (upd H p (.dK (mergeK [] kvs)))
theorem call_dictT {X : Cx} (hc : X.calm = true) : CallR X (.type "dict") (rDictT X.K) := by
  intro pins s σ H xs us Q I r h
  obtain ⟨a, ps, kvs, rfl, ⟨o, ha, hd⟩, hp, q⟩ := h
  obtain ⟨u, rfl, rx⟩ := vals1 r
  cases rx
  have ok := I.hok a _ ha
  obtain ⟨hget, hz, its, rv, o2, ho2, hcl, n, hdat⟩ := ok
  have eo : o = o2 := Option.some.inj (hget.symm.trans ho2)
  subst eo
  have ei := refs_at rv
  subst ei
  rw [List.length_map] at hz
  obtain ⟨prs, rel, hl, hpr⟩ := pairs_of I hp
  -- the pairs as values
  obtain ⟨ws, wl, hw⟩ := pickL (n := prs.length) (R := fun j (x : Value × Value) => ∃ b kv, ps[j]? = some b ∧ prs[j]? = some kv ∧ kv.2 = x.2 ∧ IsTup s.heap b #[x.1, x.2] ∧ keyIs kv.1 x.1 = true) fun j hj => by
    obtain ⟨b, u, e1, e2, e3⟩ := hpr j prs[j] (List.getElem?_eq_getElem hj)
    exact ⟨(u, prs[j].2), b, prs[j], e1, List.getElem?_eq_getElem hj, rfl, e2, e3⟩
  have P := PairArg.tuple (prog := X.prog) (w := X.w) a (ps.map Value.ref).toArray (fun j => ps.getD j 0) ws
  refine PySem.call_dict_pairs (knd := mixKind X.prog X.w) (kvs := prs) P (I.ok.hd hc) ⟨⟨o, n, hget, hcl, hd, hdat⟩, by simp [wl, hl], fun j k v e => ?_⟩ ⟨by rw [wl], fun i key v e => ?_⟩ (by rw [wl, hl]; exact hz) fun g tk hd' kp => ?_
  · obtain ⟨b, kv, e1, e2, e3, e4, e5⟩ := hw j (k, v) e
    refine ⟨by simp [e1], ?_⟩
    show PairAt s.heap (ps.getD j 0) k v
    rw [List.getD_eq_getElem?_getD, e1]
    obtain ⟨ob, h1, h2, m, h3⟩ := e4
    exact .inl ⟨ob, h1, h2, m, h3⟩
  · obtain ⟨b, kv, e1, e2, e3, e4, e5⟩ := hw i (key, v) e
    obtain ⟨k0, v0⟩ := kv
    cases e3
    exact ⟨k0, e2, e5⟩
  · have kall : ∀ b o, s.heap.get? b = some o → g.get? b = some o := fun b o e => kp b o (by simp) e
    have hm : (s.heap.objs.size == sysModules) = false := beq_eq_false_iff_ne.mpr (Nat.ne_of_gt I.big)
    have hlen : (mergeK [] kvs).length ≤ sizeLine := by
      refine Nat.le_trans (length_mergeK kvs []) ?_
      rw [List.length_nil, Nat.zero_add, rel.length, hl]
      exact hz
    exact ⟨.ref s.heap.objs.size, upd H s.heap.objs.size (.dK (mergeK [] kvs)), I.laid (t' := tk) kall (Nat.le_refl _) (show ObjOk X.prog X.w _ _ _ (.dK (mergeK [] kvs)) from ⟨hlen, hm, merged [] prs, KV.merge rel .nil, hd'⟩), rfl, q _ (I.hok.fresh (Nat.le_refl _))⟩

/-! ### repr -/
theorem isDisp_of {K : PySem.W.Frag} {H : Hp} {a : Addr} {d : PyData} (h : Dp K H (.ref a) d) : (∃ ds, d = .list ds) ∨ ∃ ds, d = .tuple ds := by
  cases h with
  | lst _ _ => exact .inl ⟨_, rfl⟩
  | tup _ _ => exact .inr ⟨_, rfl⟩
/-- repr(x) of data at an address; nothing is being shown around -/
def rRepr (K : PySem.W.Frag) : List V → Hp → VK → Prop := fun xs H Q => ∃ (a : Addr) (d : PyData), xs = [.ref a] ∧ Dp K H (.ref a) d ∧ d.showable = true ∧ d.hasDict = false ∧ d.depth ≤ 60 ∧ d.shown.length ≤ sizeLine ∧ Q (.str d.shown) H
theorem call_reprD {X : Cx} (hu : X.A.units + 64 < cLine) (hg : X.A.guards = some []) : CallR X (.builtin "repr") (rRepr X.K) := by
  intro pins s σ H xs us Q I r h
  obtain ⟨a, d, rfl, hd, h1, h2, h3, h4, q⟩ := h
  obtain ⟨u, rfl, rx⟩ := vals1 r
  obtain ⟨as, rd⟩ := Dp.reads I d _ _ hd rx
  cases rx
  refine repr_of_reads' rd h1 (fun z => by rw [h2] at z; cases z) hg (by omega) (fun b o e => e) (fun g u tk kp => ?_) h4
  exact ⟨.str d.shown, H, I.kept (t' := tk) kp, ⟨u, rfl⟩, q⟩
end Nv
set_option Elab.async false
set_option linter.all false
set_option maxRecDepth 100000
namespace Nv
open PySem PySem.Spec PyProof.Rows L2
/-! ### defs that are called where nothing is being shown (repr looks at that) -/
structure FnG (P : Program) (w : World) (K : PySem.W.Frag) (mg : Str → Option Value) (base : Heap) (CX : CXT) (k : Nat) (f : Addr) (fd : FuncData) (ps : List Str) (sp : Sp) : Prop where
  len : ∀ vs H Q E, sp vs H Q E → vs.length = ps.length
  run : ∀ (A : Around) (outer : List Env) (s : Shared) (H : Hp) (args : Args) (us : List Value) (vs : List V) (Q : VK) (E : XK), A.guards = some [] → Room k A → Env0 P w K mg base A outer s H →
    BindsTo s fd args (ps.zip us) → Vals vs us → sp vs H Q E → codeAny (model P w) A (.call (.ref f) args) (CR CX outer P w H s Q E) s
section
variable {P : Program} {w : World} {K : PySem.W.Frag} {mg : Str → Option Value} {base : Heap} {CX : CXT}
theorem FnG.of {k : Nat} {f : Addr} {fd : FuncData} {ps : List Str} {sp : Sp} (F : FnOk P w K mg base CX k f fd ps sp) : FnG P w K mg base CX k f fd ps sp :=
  ⟨F.len, fun A outer s H args us vs Q E _ r e b v h => F.run A outer s H args us vs Q E r e b v h⟩
/-- a def by its body; in the body nothing is being shown -/
theorem fnG_of {k : Nat} {f : Addr} {name qual : Str} {params : Arguments} {body : List Stmt} {scope : Scope} {dV kV doc pm cdv ct oc : Value} {an od : Option Addr} {osl : Array (Option Value)} {N ps : List Str} {sp : Sp}
    (lk : K.lookup f = some ⟨oc, od, .func (PySem.W.fnOf name qual params body scope dV kV doc pm an cdv ct), osl⟩) (cd : PySem.W.codeIn K cdv qual = true) (S : FnScope N ps scope) (len : ∀ vs H Q E, sp vs H Q E → vs.length = ps.length)
    (walk : ∀ (A : Around) (outer : List Env) (s : Shared) (H : Hp) (vs : List V) (Q : VK) (E : XK), A.guards = some [] → Room k (A.deeper (envOfC qual scope s.heap.objs.size f cdv)) → sp vs H Q E →
      ∃ t, PSs (cxOf CX P w K mg base N qual scope f cdv A outer s H E) body t ∧ t { nx := fun _ H' => Q .non H', rt := Q } (start N vs) H) :
    FnG P w K mg base CX (k + 1) f (PySem.W.fnOf name qual params body scope dV kV doc pm an cdv ct) ps sp := by
  refine ⟨len, fun A outer s H args us vs Q E hg room e0 bind rel want => ?_⟩
  have here : ∀ b o, base.get? b = some o → s.heap.get? b = some o := fun b o e => (e0.bs b o e).1
  have KX : K.In s.heap := e0.mod.kin.keeps here
  have lim : s.heap.NoLimit := e0.mod.nolimit.keeps here
  refine codeAny_call_function room.depth (KX _ _ lk) rfl S.co S.gen rfl (PySem.W.codeRec_of KX cd) (bind _ _ _ _ ?_)
  refine wpAny_newFunctionEnv_cells S.kind (fun ⟨n, v⟩ hy => ?_) fun env he s1 x => ?_
  · rcases S.par n (List.of_mem_zip hy).1 with z | z
    · exact .inl z
    · exact .inr ⟨z, PySem.W.cellsFrom_some _ _ _ (.inl z)⟩
  · subst he
    refine ⟨lim.keeps x.toInCall.keep, codeAny_func ?_⟩
    obtain ⟨t, ht, hq⟩ := walk A outer s H vs Q E hg (room.deeper _) want
    refine wpAny_mono (ht.run [] s1 (start N vs) H _ (inv_start S room.hd e0 (len _ _ _ _ want) rel x) hq) (fun fl s' hs => ?_) fun e s' hs => hs
    cases fl with
    | ret u =>
      obtain ⟨v, σ', H', J, rv, q⟩ := hs
      exact ⟨v, H', J.os, J.bare, J.base, J.hok, rv, q⟩
    | next =>
      obtain ⟨σ', H', J, q⟩ := hs
      exact ⟨V.non, H', J.os, J.bare, J.base, J.hok, rfl, q⟩
    | brk => exact (hs.choose_spec.choose_spec.2 : False).elim
    | cont => exact (hs.choose_spec.choose_spec.2 : False).elim
theorem FunG.ok {x qual : Str} {st : Stmt} {f : Addr} {fd : FuncData} {N ps : List Str} {k : Nat} {sp : Sp} (F : Fun K x qual st f fd) (S : FnScope N ps (defScope st)) (len : ∀ vs H Q E, sp vs H Q E → vs.length = ps.length)
    (walk : ∀ (cdv : Value) (A : Around) (outer : List Env) (s : Shared) (H : Hp) (vs : List V) (Q : VK) (E : XK), A.guards = some [] → Room k (A.deeper (envOfC qual (defScope st) s.heap.objs.size f cdv)) → sp vs H Q E →
      ∃ t, PSs (cxOf CX0 P w K mg base N qual (defScope st) f cdv A outer s H E).nox (defBody st) t ∧ t { nx := fun _ H' => Q .non H', rt := Q } (start N vs) H) : FnG P w K mg base CX0 (k + 1) f fd ps sp := by
  obtain ⟨oc, od, kV, doc, pm, an, cdv, ct, osl, rfl, lk, cd⟩ := F.ex
  refine fnG_of lk cd S len fun A outer s H vs Q E hg hr want => ?_
  obtain ⟨t, h, q⟩ := walk cdv A outer s H vs Q E hg hr want
  exact ⟨t, h.nox, q⟩
end
section
variable {X : Cx} {CX : CXT} {k : Nat} {f : Addr} {fd : FuncData} {ps : List Str} {sp : Sp} {dvs : List V} {ds : List Value} {E : XK} {x : Str} {p pos : Pos} {e : Expr} {es : List Expr} {t : TA}
/-- a call of such a def where nothing is being shown -/
theorem pe_callG (F : FnG X.prog X.w X.K X.mg X.base CX k f fd ps sp) (hG : X.A.guards = some []) (hr : Room k X.A) (hg : Gl X x) (hm : X.mg x = some (.ref f)) (hk : PySem.W.keepIn X.K (.ref f) = true) (hb : Binds X.K fd ps ds) (hd : Vals dvs ds) (hx : Passes CX X E)
    (ha : PA X (e :: es) t) (hdb : (x == ("__debug__" : Str)) = false := by decide) (he : starEach (e :: es) X.env = (false, eval e X.env) :: starEach es X.env := by rfl) (hpl : (backTo pos (starEach es X.env)).any (·.1) = false := by rfl) :
    PE X (.Call (.Name x p) (e :: es) [] pos) (tCall sp dvs E t) := by
  refine ⟨fun pins s σ H Q I h => wpAny_Call_Name_kw (ld_glob I hg hm (PySem.W.callWith_K (h₀ := X.base) I.ok.mod.kin hk (thn (ha.run pos pins s σ H _ I h) fun us s1 ⟨vs, H1, I1, r, q⟩ => ⟨I1.kIn, ?_⟩) he hpl) hdb)⟩
  have r2 : Vals (vs ++ dvs) (us ++ ds) := r.append hd
  have hl : (us ++ ds).length = ps.length := by rw [← r2.length]; exact F.len _ _ _ _ q
  refine wpAny_call (codeAny_mono (F.run X.A X.stack s1 H1 ⟨us, []⟩ (us ++ ds) (vs ++ dvs) Q E hG hr I1.env0 (hb s1 us I1.kIn hl) r2 q) fun rr s' hq => ?_)
  rcases rr with ee | fl
  · exact hx pins σ H1 s1 ee s' I1 hq
  · cases fl with
    | ret u => exact I1.after hq
    | next => exact hq.elim
    | brk => exact hq.elim
    | cont => exact hq.elim
end
/-! ### the end: the law itself, such a def -/
theorem script_gone {P : Program} {w : World} {K : PySem.W.Frag} {h : Heap} {a : Addr} {xs : List Value} {ns : List Int} (KX : K.In h) (ha : h.get? a = some { cls := .type "list", data := .seq xs.toArray }) (hi : IntsAre xs ns) (hl : ns.length ≤ sizeLine) :
    ∃ H : Hp, Only H ∧ SqL K H a (ns.map V.int) ∧ HOk P w H h ∧ (∀ b u, H b = some u → b = a ∧ K.lookup a = none) := by
  have rv := vals_ints hi
  cases hk : K.lookup a with
  | some o =>
    obtain rfl := Option.some.inj ((KX a o hk).symm.trans ha)
    refine ⟨fun _ => none, fun _ => .inl rfl, .inr ⟨_, xs.toArray, _, hk, rfl, rfl, rfl, by rw [List.size_toArray, hi.length]; exact hl, by simpa using rv⟩, fun b u z => (by have z' : (none : Option HO) = some u := z; cases z'), fun b u z => (by have z' : (none : Option HO) = some u := z; cases z')⟩
  | none =>
    have on : ∀ b u, (if b = a then some (HO.frz { cls := .type "list", data := .seq xs.toArray } (.lst (ns.map V.int))) else none) = some u → b = a ∧ u = HO.frz { cls := .type "list", data := .seq xs.toArray } (.lst (ns.map V.int)) := fun b u z => by
      split at z
      · exact ⟨by assumption, (Option.some.inj z).symm⟩
      · cases z
    refine ⟨fun b => if b = a then some (.frz { cls := .type "list", data := .seq xs.toArray } (.lst (ns.map V.int))) else none, fun b => ?_, .inl (.inr ⟨_, if_pos rfl⟩), fun b u z => ?_, fun b u z => ⟨(on b u z).1, rfl⟩⟩
    · by_cases hb : b = a
      · exact .inr ⟨_, _, if_pos hb⟩
      · exact .inl (if_neg hb)
    · obtain ⟨rfl, rfl⟩ := on b u z
      exact ⟨ha, by rw [List.length_map]; exact hl, xs, _, rv, ha⟩
theorem endG {l : PySem.W.OpenLaw} {n k : Nat} {q : Program} {loose : List Str} {XP : (Str → Option Value) → Heap → Prop} {YP : World → Heap → Prop} {d : DefRec} {K : Params → PySem.W.Frag} {sp : PySem.W.Frag → Sp} {x : Str}
    (hn : l.most = some n) (hn2 : n ≤ sizeLine) (hdf : d.params.defaults = []) (hr : Room k callerA) (hY : ∀ (w : World) (h : Heap), YP w h → (K w.params).In h)
    (F : ∀ (w : World) (mg : Str → Option Value) (fa : Addr) (h : Heap), (K w.params).In h → h.Ns mainGlobals mg → mg d.name = some (.ref fa) →
      ∃ fd : FuncData, (∀ (s : Shared) (u : Value), BindsTo s fd ⟨[u], []⟩ [(x, u)]) ∧ ∀ base : Heap, (K w.params).In base → base.Ns mainGlobals mg → FnG l.prog w (K w.params) mg base CX0 k fa fd [x] (sp (K w.params)))
    (hsp : ∀ (K : PySem.W.Frag) (H : Hp) (a : Addr) (ns : List Int), ns.length ≤ n → SqL K H a (ns.map V.int) → sp K [.ref a] H (fun v _ => v = .bl true) fun _ _ _ => False) :
    PySem.W.WalkO q loose XP YP l.row.toRowW d [] (fun f vs => PySem.call f vs) := by
  refine Att.attach_call hn hdf fun w s₀ s1 mg mb fa o pm cd doc a vs ns G Y ho hd hcd hmg hobj hints hlen hg => ?_
  have KX := hY w _ Y
  obtain ⟨fd, hb, hF⟩ := F w mg fa _ KX G.T.g hmg
  have small : ns.length ≤ sizeLine := Nat.le_trans hlen hn2
  obtain ⟨H, only, seen, hok, dom⟩ := script_gone (P := l.prog) (w := w) KX hobj hints small
  -- the heap without the script
  have free : ∀ {b : Addr} {o : Obj}, s1.heap.get? b = some o → (∀ xs k, o.data ≠ .seq xs k) → H b = none := fun {b o} e ne => by
    cases q : H b with
    | none => rfl
    | some u =>
      obtain ⟨rfl, _⟩ := dom b u q
      rw [hobj] at e
      cases e
      exact (ne _ _ rfl).elim
  have ns : ∀ {b : Addr} {m : Str → Option Value}, s1.heap.Ns b m → (hidT s1.heap H).Ns b m := fun {b m} ⟨o, es, ep, e, dd, r⟩ => ⟨o, es, ep, hidT_get e (free e (by rw [dd]; intro _ _ z; cases z)), dd, r⟩
  have inK : (K w.params).In (hidT s1.heap H) := fun b o e => hidT_get (KX b o e) (by
    cases q : H b with
    | none => rfl
    | some u =>
      obtain ⟨rfl, z⟩ := dom b u q
      rw [z] at e
      cases e)
  have M : Mod (K w.params) mg (hidT s1.heap H) := ⟨inK, ns G.T.g, ⟨mb, ns G.T.b, G.T.builtins⟩, let ⟨mc, h1, h2⟩ := G.T.nolimit; ⟨mc, ns h1, h2⟩⟩
  have e0 : Env0 l.prog w (K w.params) mg (hidT s1.heap H) callerA [] s1 H := ⟨rfl, M, fun b o e => of_hidT e, Nat.le_of_eq (hidT_size _ _), trivial, fun b z => absurd (show b ∈ ([] : List Addr) from z) (by simp), hok, AllBare.of_eq hg⟩
  refine codeAny_mono ((hF _ inK (ns G.T.g)).run callerA [] s1 H ⟨[.ref a], []⟩ [.ref a] [.ref a] _ _ rfl hr e0 (hb s1 (.ref a)) (.cons rfl .nil) (hsp _ H a _ hlen seen)) fun r s' h => ?_
  rcases r with e | fl
  · exact (h : False).elim
  · cases fl with
    | next => exact (h : False).elim
    | brk => exact (h : False).elim
    | cont => exact (h : False).elim
    | ret u =>
      obtain ⟨v, H', os, bare, un, hok', rv, qv⟩ := h
      obtain rfl : v = .bl true := qv
      obtain rfl : u = Value.bool true := rv
      refine ⟨rfl, OldK.of_keep fun b o e => ?_, os, bare⟩
      cases z : H b with
      | none => exact un.keep b o e z (fun z => absurd (show b ∈ ([] : List Addr) from z) (by simp)) (by simp)
      | some u =>
        obtain ⟨ob, ys, z2⟩ : ∃ ob ys, H b = some (.frz ob (.lst ys)) := by
          rcases only b with z3 | z3
          · rw [z3] at z; cases z
          · exact z3
        obtain ⟨g1, _⟩ := hok b _ z2
        obtain ⟨g2, _⟩ := hok' b _ (un.frzs b ob _ z2)
        rw [e] at g1
        cases g1
        exact g2
end Nv
set_option Elab.async false
set_option linter.all false
set_option maxRecDepth 100000
namespace Nv
open PySem PySem.Spec PyProof.Rows L2
/-! ### the layer's rules with the written part named (within a comprehension's block) -/
section
variable {X : Cx} (K : PySem.W.Frag)
theorem ix_listK (h : X.K = K := by rfl) : IxR X (rIxL K) := by subst h; exact ix_list
theorem ix_tupK (h : X.K = K := by rfl) : IxR X (rIxT K) := by subst h; exact ix_tup
theorem op_in_seqK (h : X.K = K := by rfl) : OpR X (compareOp .In) (rIn K false) := by subst h; exact op_in_seq
theorem op_notIn_seqK (h : X.K = K := by rfl) : OpR X (compareOp .NotIn) (rIn K true) := by subst h; exact op_notIn_seq
def rLen (K : PySem.W.Frag) : List V → Hp → VK → Prop := fun xs H Q => ∃ p ys, xs = [.ref p] ∧ (SqL K H p ys ∨ SqT K H p ys) ∧ Q (.int ys.length) H
theorem call_len_seqK (h : X.K = K := by rfl) : CallR X (.builtin "len") (rLen K) := by subst h; exact call_len_seq
theorem mt_indexK (h : X.K = K := by rfl) : MtR X "list.index" (rIndex K) := by subst h; exact mt_index
theorem call_tupZK (h : X.K = K := by rfl) : CallR X (.type "tuple") (rTupZ K) := by subst h; exact call_tupZ
def rListOf (K : PySem.W.Frag) : List V → Hp → VK → Prop := fun xs H Q => ∃ p ys, xs = [.ref p] ∧ (SqL K H p ys ∨ SqT K H p ys) ∧ ∀ l, H l = none → Q (.ref l) (upd H l (.lst ys))
theorem call_list_ofK (h : X.K = K := by rfl) : CallR X (.type "list") (rListOf K) := by subst h; exact call_list_of
theorem call_dictTK (h : X.K = K := by rfl) (hc : X.calm = true := by rfl) : CallR X (.type "dict") (rDictT K) := by subst h; exact call_dictT hc
theorem cr_setIK (w : World) (h : X.K = K := by rfl) (h2 : X.w = w := by rfl) (hc : X.calm = true := by rfl) : CallR X (.type "set") (rSetI K w) := by subst h h2; exact cr_setI hc
theorem cr_sortedSetK (w : World) (h2 : X.w = w := by rfl) (hc : X.calm = true := by rfl) : CallR X (.builtin "sorted") (rSortedSet w) := by subst h2; exact cr_sortedSet hc
theorem cr_sortedK (h : X.K = K := by rfl) : CallR X (.builtin "sorted") (rSorted K) := by subst h; exact cr_sorted
theorem cr_anyK (h : X.K = K := by rfl) (hc : X.calm = true := by rfl) : CallR X (.builtin "any") (rAny K) := by subst h; exact cr_any hc
theorem cr_sumK (h : X.K = K := by rfl) (hc : X.calm = true := by rfl) : CallR X (.builtin "sum") (rSum K) := by subst h; exact cr_sum hc
theorem call_isiK' (h : X.K = K := by rfl) : CallR X (.builtin "isinstance") (rIsi K) := by subst h; exact call_isi
theorem op_eqDK (hu : X.A.units + 64 < cLine) (h : X.K = K := by rfl) : OpR X (compareOp .Eq) (rEqD K) := by subst h; exact op_eqD hu
theorem op_neDK (hu : X.A.units + 64 < cLine) (h : X.K = K := by rfl) : OpR X (compareOp .NotEq) (rNeD K) := by subst h; exact op_neD hu
theorem sl_listK (h : X.K = K := by rfl) : SlR X (rSlL K) := by subst h; exact sl_list
theorem call_reprDK (hu : X.A.units + 64 < cLine) (hg : X.A.guards = some []) (h : X.K = K := by rfl) : CallR X (.builtin "repr") (rRepr K) := by subst h; exact call_reprD hu hg
theorem pi_listK {tg l : Expr} {tl : TE} (hl : PE X l tl) (h : X.K = K := by rfl) : PI X tg l (iList K tl) := by subst h; exact pi_list hl
theorem pi_tupK {tg l : Expr} {tl : TE} (hl : PE X l tl) (h : X.K = K := by rfl) : PI X tg l (iTup K tl) := by subst h; exact pi_tup hl
theorem pg_tupK {es : List Expr} {k : Nat} {t : TGs} {n : Nat} {pos : Pos} (hc : X.calm = true) (hh : PGs X es t) (h : X.K = K := by rfl) (hn : (assignEach es X.env).length = n := by rfl) (hst : (assignEach es X.env).findIdx? (·.1) = none := by rfl) :
    PG X (.Tuple es k pos) (gTup K n t) := by subst h; exact pg_tup hc hh hn hst
theorem pe_bmK {T id : String} {name : Str} {o e : Expr} {es : List Expr} {to : TE} {t : TA} {r : V → List V → Hp → VK → Prop} {apos cpos : Pos} (pa : PlainAttrs T) (slot : Slot T name id) (hty : typeOf (.builtin id) = pure (.type "method_descriptor")) (hm : MtR X id r) (ho : PE X o to) (ha : PA X (e :: es) t)
    (h : X.K = K := by rfl) (hbase : attributeBase o name X.env (eval o X.env) = eval o X.env := by rfl)
    (hfew : ((backTo cpos (starEach (e :: es) X.env)).all (fun x => !x.1) && (backToKw cpos (keywordEach [] X.env)).all (fun x => x.1.isSome)
      && decide ((e :: es).length + ([] : List Keyword).length + (if ([] : List Keyword).isEmpty then 0 else 1) < 30)) = true := by rfl)
    (hline : (apos.endLine == cpos.line) = true := by rfl) (hs : starEach (e :: es) X.env = (false, eval e X.env) :: starEach es X.env := by rfl) (hplain : (backTo cpos (starEach es X.env)).any (·.1) = false := by rfl) :
    PE X (.Call (.Attribute o name apos) (e :: es) [] cpos) (tBM K T r to t) := by subst h; exact pe_bm pa slot hty hm ho ha hbase hfew hline hs hplain
end
end Nv
set_option Elab.async false
set_option linter.all false
set_option maxRecDepth 100000
namespace Nv
open PySem PySem.Spec PyProof.Rows L2
open AutoSeq1 (wpAny_loadPart')
/-! ### enumerate(t), t a tuple -/
abbrev tupIt (t : Addr) : Obj := { cls := .type "tuple_iterator", data := .fields #[.ref t, .int 0 0] }
abbrev enumOb (i : Addr) : Obj := { cls := .type "enumerate", data := .fields #[.none, .bool false, .ref i, rawInt 0, .none, .none] }
theorem new_enumT (t : Addr) (xs : Array Value) (n : Nat) (dct : Option Addr) (sl : Array (Option Value)) :
    Meets (Builtin.«enumerate.__new__» ⟨[.type "enumerate", .ref t], []⟩) (fun _ R s => s.heap.get? t = some { cls := .type "tuple", dict := dct, data := .seq xs n, slots := sl } ∧
      R (.ok (.ret (.ref (s.heap.push (tupIt t)).objs.size))) { s with heap := (s.heap.push (tupIt t)).push (enumOb s.heap.objs.size) }) :=
  .of_wp fun prog w A R s h => by
    obtain ⟨hp, g, d, tk, os⟩ := s
    obtain ⟨ht, h⟩ := h
    have sub := sub_enumerate
    have hT : Heap.IsTuple (Shared.heap ⟨hp, g, d, tk, os⟩) t xs := ⟨_, ht, rfl, n, rfl⟩
    wp_walk using wpAny_loadPart' ht
    refine wpAny_stack_any fun st => wpAny_pure ?_
    split
    · rename_i c _ _ _ _ _
      cases (c == Value.type "enumerate")
      · wp_walk using wpAny_loadPart' ht, wpAny_pyIter_tuple hT
        exact ⟨_, rfl, h⟩
      · wp_walk using wpAny_loadPart' ht, wpAny_pyIter_tuple hT
        exact ⟨_, rfl, h⟩
    · wp_walk using wpAny_loadPart' ht, wpAny_pyIter_tuple hT
      exact ⟨_, rfl, h⟩
section
variable {prog : Program} {w : World} {A : Around} {E : Value → Shared → Prop} {s : Shared}
theorem call_enumT {t : Addr} {xs : Array Value} {Q : Value → Shared → Prop} (hT : s.heap.IsTuple t xs)
    (k : ∀ g, IsEnum g (s.heap.objs.size + 1) s.heap.objs.size 0 .none → g.IsTupleIter s.heap.objs.size t 0 → (∀ b o, s.heap.get? b = some o → g.get? b = some o) → Q (.ref (s.heap.objs.size + 1)) { s with heap := g }) :
    wpAny (model prog w) A (call (.type "enumerate") [.ref t]) Q E s := by
  obtain ⟨⟨c, dct, dt, sl⟩, ht, hc, n, hd⟩ := hT
  have hc2 : c = .type "tuple" := hc
  have hd2 : dt = .seq xs n := hd
  subst hc2 hd2
  refine callType_new F.called_enumerate (by decide) (F.typeCall_enumerate_1 _) (F.newCall_enumerate_1 _) (fun obj => F.args_object_init_2 obj _) F.entry_enumerate_new (new_enumT t xs n dct sl) ⟨ht, ?_⟩
  have sz : (s.heap.push (tupIt t)).objs.size = s.heap.objs.size + 1 := Heap.size_push ..
  have he := Heap.get?_push_size (s.heap.push (tupIt t)) (o := enumOb s.heap.objs.size) rfl
  rw [sz] at he
  show _ ∧ _
  rw [sz]
  exact ⟨⟨_, he, rfl⟩, k _ he ⟨_, Heap.get?_push_of_some _ (Heap.get?_push_size _ rfl), rfl, rfl⟩ fun b o x => Heap.get?_push_of_some _ (Heap.get?_push_of_some _ x)⟩
end
/-- the tuple at a, each item in a new pair with its number -/
def IteT (K : PySem.W.Frag) (a : Addr) : It :=
  ⟨fun i H => ∃ (xs : List V) (x : V), SqT K H a xs ∧ xs[i]? = some x, fun i H v H' => ∃ T x, v = .ref T ∧ H T = none ∧ H' = upd H T (.tup [.int (i : Nat), x]) ∧ ∀ xs, SqT K H a xs → xs[i]? = some x, fun i H => ∃ xs : List V, SqT K H a xs ∧ xs.length = i⟩
theorem turn_enumT {P : Program} {w : World} {K : PySem.W.Frag} {elts : List Expr} {kk : Nat} {tpos : Pos} (a e it : Addr) :
    Turn P w K (.Tuple elts kk tpos) (IteT K a) [e, it] e (fun i h => (∃ old, IsEnum h e it ((i : Nat) : Int) old) ∧ h.IsTupleIter it a i ∧ e ≠ it) where
  mem := by simp
  obj := fun i h st b hb => by
    obtain ⟨⟨old, he⟩, ⟨o, ho, hc, hd⟩, _⟩ := st
    rcases List.mem_cons.mp hb with z | z
    · rw [z]; exact ⟨_, he, fun v q => nomatch q⟩
    · rw [List.mem_singleton.mp z]; exact ⟨o, ho, fun v q => by rw [hd] at q; cases q⟩
  keep := fun i h h' st k => let ⟨⟨old, he⟩, hi, hne⟩ := st; ⟨⟨old, k e (by simp) _ he⟩, hi.at fun o q => k it (by simp) o q, hne⟩
  item := by
    intro X hP hw hK hc i pins s σ H E I hf st hg
    subst hP hw hK
    obtain ⟨⟨old, he⟩, hit, hne⟩ := st
    obtain ⟨xs, x, hq, hx⟩ := hg
    obtain ⟨its, rv, p, hz⟩ := I.tuple hq
    obtain ⟨u, hu, ru⟩ := rv.get hx
    have hel : e < s.heap.objs.size := Heap.lt_size he
    have hil : it < s.heap.objs.size := by obtain ⟨_, q, _⟩ := hit; exact Heap.lt_size q
    have hIT : s.heap.IsTuple a its.toArray := p
    have hail : a ≠ it := fun z => by
      obtain ⟨o, q1, q2, _⟩ := hit
      obtain ⟨o', q3, q4, _⟩ := hIT
      rw [z, q1] at q3
      cases q3
      rw [q2] at q4
      exact absurd q4 (by decide)
    have hae : e ∉ [it, a] := fun z => by
      rcases List.mem_cons.mp z with z | z
      · exact hne z
      · have z := List.mem_singleton.mp z
        obtain ⟨o', q3, q4, _⟩ := hIT
        have he' : s.heap.get? e = some _ := he
        rw [z, q3] at he'
        cases he'
        exact absurd q4 (show ¬ Value.type "enumerate" = Value.type "tuple" by decide)
    have D := Draws.tuple (prog := X.prog) (w := X.w) (A := X.A.in1) (I.ok.hd hc) it a hail its.toArray
    have hil2 : i < its.toArray.size := by
      have := (List.getElem?_eq_some_iff.mp hu).1
      simpa using this
    refine wpAny_pyNext_enum_itemD D he ⟨hit, hIT⟩ hil2 hne hae fun y g tk hy ho hst hT hsz hk => ?_
    have hyu : y = u := by
      have : its.toArray[i]? = some u := by simpa using hu
      rw [this] at hy
      exact (Option.some.inj hy).symm
    subst hyu
    refine ⟨_, rfl, wpAny_letOwnedTupleGo_enum (s := { s with heap := g, toks := tk + 1 }) ho fun g2 he' sb => ?_⟩
    have hT2 : g2.get? s.heap.objs.size = some { cls := .type "tuple", data := .seq #[.int i tk, y] } := (sb.2 _ (Nat.ne_of_gt hel)).trans hT
    have new : ObjOk X.prog X.w (upd H s.heap.objs.size (.tup [.int (i : Nat), x])) g2 s.heap.objs.size (.tup [.int (i : Nat), x]) :=
      ⟨by show 2 ≤ sizeLine; decide, [.int i tk, y], .cons ⟨_, rfl⟩ (.cons ru .nil), ⟨_, hT2, rfl, _, rfl⟩⟩
    have I1 : Inv X pins σ (upd H s.heap.objs.size (.tup [.int (i : Nat), x])) { s with heap := g2, toks := tk + 1 } :=
      I.turnedNew (ch := [e, it]) (fun b ob hb q => (sb.2 b (fun z => hb (by simp [z]))).trans (hk b ob (fun z => hb (by simp [z])) (fun z => hb (by simp [z])) q)) hf (Nat.le_refl _) new
    refine ⟨.ref s.heap.objs.size, _, I1, rfl, ⟨_, x, rfl, I.hok.fresh (Nat.le_refl _), rfl, fun ys hy => by rw [I.tuple_inj hy hq]; exact hx⟩, ⟨⟨y, ?_⟩, hst.1.at fun o q => (sb.2 it (Ne.symm hne)).trans q, hne⟩, fun b hb => ?_⟩
    · have e1 : ((i + 1 : Nat) : Int) = (i : Int) + 1 := by omega
      rw [e1]
      exact he'
    · have hb' : b < s.heap.objs.size := by
        rcases List.mem_cons.mp hb with z | z
        · rw [z]; exact hel
        · rw [List.mem_singleton.mp z]; exact hil
      rw [upd_ne (Nat.ne_of_lt hb')]
      exact (hf b hb).1
  done := by
    intro X hP hw hK hc i pins s σ H E I hf st hg
    subst hP hw hK
    obtain ⟨⟨old, he⟩, hit, hne⟩ := st
    obtain ⟨xs, hq, hx⟩ := hg
    obtain ⟨its, rv, p, hz⟩ := I.tuple hq
    have hIT : s.heap.IsTuple a its.toArray := p
    have hail : a ≠ it := fun z => by
      obtain ⟨o, q1, q2, _⟩ := hit
      obtain ⟨o', q3, q4, _⟩ := hIT
      rw [z, q1] at q3
      cases q3
      rw [q2] at q4
      exact absurd q4 (by decide)
    obtain ⟨f0, f1, f2, f3, f4, f5⟩ := hf it (by simp)
    have hl := rv.length
    have D := Draws.tuple (prog := X.prog) (w := X.w) (A := X.A.in1) (I.ok.hd hc) it a hail its.toArray
    have ei : i = its.toArray.size := by simp; omega
    rw [ei] at hit
    exact wpAny_pyNext_enum_endD D he ⟨hit, hIT⟩ fun g eb => ⟨rfl, I.turned (t' := s.toks) (fun b o hb q => eb b o hb q) f0 f1 f3 f4 f5⟩
  self := fun A i s Q E st h => let ⟨⟨_, he⟩, _⟩ := st; wpAny_pyIter_enum he h
def iEnumT (K : PySem.W.Frag) (ta : TA) : TI := fun σ H R => ta σ H fun vs H1 => ∃ a xs, vs = [.ref a] ∧ SqT K H1 a xs ∧ R (IteT K a) H1
theorem pi_enumT {X : Cx} {e : Expr} {ta : TA} {p pos tpos : Pos} {elts : List Expr} {kk : Nat} (hg : Gl X "enumerate") (hm : X.mg "enumerate" = none) (ha : PA X [e] ta) (hs : starEach [e] X.env = [(false, eval e X.env)] := by rfl) :
    PI X (.Tuple elts kk tpos) (.Call (.Name "enumerate" p) [e] [] pos) (iEnumT X.K ta) := by
  refine ⟨fun pins s σ H R I h => Call_ (ld_blt I hg hm boot_enumerate (PyProof.Rows.callWith_type1 (thn (ha.run pos pins s σ H _ I h) fun us s1 ⟨vs, H1, I1, r1, q1⟩ => ?_) hs rfl))⟩
  obtain ⟨a, xs, rfl, hq, q⟩ := q1
  obtain ⟨u, rfl, rx⟩ := vals1 r1
  cases rx
  obtain ⟨its, rv, p', hz⟩ := I1.tuple hq
  refine call_enumT (xs := its.toArray) p' fun g he hit hk => wpAny_pyIter_enum he ?_
  have I2 : Inv X pins σ H1 { s1 with heap := g } := I1.kept (t' := s1.toks) hk
  refine ⟨s1.heap.objs.size + 1, [s1.heap.objs.size + 1, s1.heap.objs.size], _, _, H1, rfl, I2, turn_enumT a (s1.heap.objs.size + 1) s1.heap.objs.size, ⟨⟨.none, he⟩, hit, Nat.succ_ne_self _⟩, fun b hb => ?_, q⟩
  have hle : s1.heap.objs.size ≤ b := by
    rcases List.mem_cons.mp hb with z | z
    · rw [z]; exact Nat.le_add_right _ _
    · rw [List.mem_singleton.mp z]; exact Nat.le_refl _
  exact I1.fpOk hle (I1.hok.fresh hle)
theorem walk_enumT {K : PySem.W.Frag} {a : Addr} {xs : List V} : Walk (IteT K a) xs.length (fun H => SqT K H a xs) (YPair (fun i => some (.int (i : Nat))) (fun i => xs[i]?)) where
  goes := fun i H hi h => ⟨xs, xs[i], h, List.getElem?_eq_getElem hi⟩
  stops := fun H h => ⟨xs, h, rfl⟩
  yields := fun i H x H' _ h y => by
    obtain ⟨T, z, e1, e2, e3, e4⟩ := y
    exact ⟨T, .int (i : Nat), z, e1, e2, e3, rfl, e4 xs h⟩
end Nv
set_option Elab.async false
set_option linter.all false
set_option maxRecDepth 100000
/-! several clauses 'except X as n', all of one name n (slot i) -/
namespace Nv
open PySem PySem.Spec PyProof.Rows L2
abbrev Cl := Value × (Addr → Value → Option Addr → TS)
/-- behind the suite the slot is empty -/
abbrev dropS (i : Nat) (D : Ends) : Ends := { nx := fun σ H => D.nx (σ.set i none) H, rt := D.rt, bk := fun σ H => D.bk (σ.set i none) H, ct := fun σ H => D.ct (σ.set i none) H }
def wAll (K : PySem.W.Frag) (Wout : WX) (D : Ends) (i : Nat) : List Cl → WX
  | [] => Wout
  | p :: r => fun cls d σ H => ∃ yes, PySem.W.exmOne K cls p.1 = some yes ∧ (yes = true → ∀ a, H a = none → p.2 a cls d (dropS i D) (σ.set i (some (.ref a))) H) ∧ (yes = false → wAll K Wout D i r cls d σ H)
/-- the clauses, each with its suite's reading -/
inductive Cls (X : Cx) (n : Str) : List ExceptHandler → List Cl → Prop
  | none : Cls X n [] []
  | one {x : Str} {c : Value} {ts : Addr → Value → Option Addr → TS} {st : Stmt} {more : List Stmt} {np hp : Pos} {hs : List ExceptHandler} {l : List Cl} (nm : Names X x c)
      (su : ∀ (a : Addr) (oe : Obj) (cls : Value) (d : Option Addr) (pn : List (Addr × Obj)), Zc cls d oe → (∃ vs, oe.data = .fields vs) → PSs (X.suite a ((a, oe) :: pn)) (st :: more) (ts a cls d)) (rest : Cls X n hs l) :
      Cls X n (.ExceptHandler (some (.Name x np)) (some n) (st :: more) hp :: hs) ((c, ts) :: l)
section
variable {X : Cx} {n : Str} {i : Nat} {Wout : WX} {D : Ends} {pins : List (Addr × Obj)} {σ : L2.St} {H : Hp} {B : Heap} {a : Addr} {cls : Value} {d : Option Addr}
/-- the clauses looked at one after the other; the exception at a flies over this frame in the heap h3 -/
theorem clauses_run (hf : X.env.frame = some X.env.locals) (hN : X.N.Nodup) (hi : X.N[i]? = some n) (hln : X.env.kindOf n = some .local) (tk : Takes X Wout) {s' : Shared} {h3 : Heap} (ok : X.Ok)
    (na : H a = none) (nL : a ≠ X.env.locals) (nF : a ∉ X.fs) (here : Inv X pins σ H { s' with heap := h3 })
    (land : ∀ h4, HandSPX.FlyingZ B (X.env :: X.outer) a (Zc cls d) h4 → h3.UpToSlots h4 → Inv X pins σ H { s' with heap := h4 }) (fly : HandSPX.FlyingZ B (X.env :: X.outer) a (Zc cls d) h3)
    (out : Wout cls d σ H → ∀ h4, HandSPX.HeldZ B (X.env :: X.outer) a (Zc cls d) X.env.locals h4 → h3.UpToSlots h4 → XE X Wout (.ref a) { s' with heap := h4 }) :
    ∀ {hds : List ExceptHandler} {l : List Cl}, Cls X n hds l → wAll X.K Wout D i l cls d σ H → wpAny (model X.prog X.w) X.A (handleBy (.ref a) X.env hds) (SP X pins D) X.xe { s' with heap := h3 } := by
  intro hds l hc
  obtain ⟨oe, vs, he, hz, hd⟩ := fly.there
  induction hc with
  | none =>
    intro w
    obtain ⟨_, _, _, _, vs2, T, _, _, he2, _, hd2, h1, _⟩ := id fly
    refine wpAny_handleBy_nil ?_
    unfold PySem.passOn
    refine wpAny_bind (wpAny_field he2 hd2 h1 ?_)
    rw [if_neg (by simp)]
    have leave : wpAny (model X.prog X.w) X.A (setFlight (.ref a) X.env.frame) (fun _ s4 => wpAny (model X.prog X.w) X.A (throw (.ref a) : Sem Flow) (SP X pins D) X.xe s4) X.xe { s' with heap := h3 } := by
      rw [hf]
      exact HandSPX.setFlight_upZ fly fun h4 held up4 => wpAny_throw (tk _ _ (out w h4 held up4))
    first
      | exact wpAny_bind leave
      | exact wpAny_bind (wpAny_pure (wpAny_bind leave))
  | @one x c ts st more np hp hs l nm su rest ih =>
    rintro ⟨yes, hy, w1, w2⟩
    have S3 := here.suite he hd na nL nF
    have cl : PySem.W.Looks (model X.prog X.w) h3 (typeOf (.ref a)) cls := fun A Q E s k q => wpAny_typeOf_ref (k _ _ he) (by rw [hz.1]; exact q)
    refine wpAny_handleBy_cons (codeAny_handlers_test ?_) (fun q => by cases q)
    have named : ∀ {Q E : Value → Shared → Prop}, Q c { s' with heap := h3 } → wpAny (model X.prog X.w) (X.A.mark (some (.ref a))) (eval (.Name x np) X.env) Q E { s' with heap := h3 } := fun {Q E} q => by
      obtain ⟨hg, hdb, hm | ⟨hm, hv, hn⟩⟩ := nm
      · exact ld_glob (X := X.suite a ((a, oe) :: (X.pn ++ pins))) S3 hg hm q hdb
      · exact ld_blt (X := X.suite a ((a, oe) :: (X.pn ++ pins))) S3 hg hm hv q hn hdb
    refine named ((PySem.W.exm_one (M := model X.prog X.w) here.kIn cl hy).here ?_)
    cases yes with
    | false => exact ih (w2 rfl)
    | true =>
      refine codeAny_handlers_suite_as (HandSPX.lands_againZ fly fun h4 fly4 up4 => ?_)
      have J4 := land h4 fly4 up4
      obtain ⟨oe4, vs4, he4, hz4, hd4⟩ := fly4.there
      refine store_ok (X := X.suite a ((a, oe4) :: (X.pn ++ pins))) (v := .ref a) (J4.suite he4 hd4 na nL nF) hN hi (.inl hln) rfl (fun s5 S5 => ?_) (.inr hln)
      have after : ∀ {s6 : Shared} {σ6 : L2.St} {H6 : Hp} {R : Shared → Prop}, Inv (X.suite a ((a, oe4) :: (X.pn ++ pins))) [] σ6 H6 s6 → (∀ s7, Inv X pins (σ6.set i none) H6 s7 → R s7) →
          wpAny (model X.prog X.w) X.A (do bindName X.env n .none; unbindBehindTheSuite X.env n hp) (fun _ s7 => R s7) X.xe s6 := fun {s6 σ6 H6 R} S6 hq => gone_ok (S6.unsuite ok) hN hi hln hq
      refine wpAny_mono ((su a oe4 cls d (X.pn ++ pins) hz4 ⟨_, hd4⟩).run [] s5 _ H _ S5 (w1 rfl a na)) (fun fl s6 hsp => ?_) (fun _ _ z => False.elim z)
      cases fl with
      | ret u =>
        obtain ⟨v, σ6, H6, S6, r, q⟩ := hsp
        exact after S6 fun s7 J7 => ⟨_, _, _, J7, r, q⟩
      | next =>
        obtain ⟨σ6, H6, S6, q⟩ := hsp
        exact after S6 fun s7 J7 => ⟨_, _, J7, q⟩
      | brk =>
        obtain ⟨σ6, H6, S6, q⟩ := hsp
        exact after S6 fun s7 J7 => ⟨_, _, J7, q⟩
      | cont =>
        obtain ⟨σ6, H6, S6, q⟩ := hsp
        exact after S6 fun s7 J7 => ⟨_, _, J7, q⟩
end
section
variable {X : Cx} {n : Str} {i : Nat} {body : List Stmt} {hd0 : ExceptHandler} {hds : List ExceptHandler} {l : List Cl} {pos : Pos} {tb : WX → TS} {Wout : WX}
theorem ps_try_all (hs : X.stack = X.env :: X.outer) (hf : X.env.frame = some X.env.locals) (hN : X.N.Nodup) (hi : X.N[i]? = some n) (hln : X.env.kindOf n = some .local) (tk : Takes X Wout)
    (hb : ∀ (W : WX) (pn : List (Addr × Obj)) (xe : Value → Shared → Prop), Takes (X.tr pn xe) W → PassesOwn (model X.prog X.w) X.A X.env xe → PSs (X.tr pn xe) body (tb W)) (hc : Cls X n (hd0 :: hds) l) :
    PS X (.Try body (hd0 :: hds) [] [] pos) (fun D σ H => tb (wAll X.K Wout D i l) D σ H) := by
  refine ⟨fun pins s σ H D I h => wpAny_Try_except ?_⟩
  have ok := I.ok
  have hfr : X.A.frames = some (X.env :: X.outer) := by rw [ok.frames, hs]
  have run := (hb (wAll X.K Wout D i l) (X.pn ++ pins) (fun e s₁ => wpAny (model X.prog X.w) X.A (noteFrame e X.env) (fun _ s₂ => wpAny (model X.prog X.w) X.A (setFlight e none) (fun _ s₃ => wpAny (model X.prog X.w) X.A (handleBy e X.env (hd0 :: hds)) (SP X pins D) X.xe s₃) X.xe s₂) X.xe s₁)
    (fun u s' xx => ?_) PassesOwn.looking).run [] s σ H D (I.toTry _) h
  · refine wpAny_mono run (fun fl s1 hsp => ?_) (fun e s1 he => he)
    cases fl with
    | ret u =>
      obtain ⟨v, σ', H', J, r, q⟩ := hsp
      exact ⟨v, σ', H', J.ofTry ok, r, q⟩
    | next =>
      obtain ⟨σ', H', J, q⟩ := hsp
      exact wpAny_execs_nil ⟨σ', H', J.ofTry ok, q⟩
    | brk =>
      obtain ⟨σ', H', J, q⟩ := hsp
      exact ⟨σ', H', J.ofTry ok, q⟩
    | cont =>
      obtain ⟨σ', H', J, q⟩ := hsp
      exact ⟨σ', H', J.ofTry ok, q⟩
  · obtain ⟨a, B, sI, _, σ', H', cls, d, rfl, J', nb, up, sky, na, os, ag, w⟩ := xx
    have J : Inv X pins σ' H' sI := J'.ofTry ok
    have sky' : Sky B (X.env :: X.outer) a (Zc cls d) X.env.locals s'.heap := by rw [← hs]; exact sky
    show wpAny (model X.prog X.w) X.A (noteFrame (.ref a) X.env) _ _ _
    refine Sky.land Zc.steady hfr hf sky' fun h3 fly up3 => ?_
    have land : ∀ h4, HandSPX.FlyingZ B (X.env :: X.outer) a (Zc cls d) h4 → h3.UpToSlots h4 → Inv X pins σ' H' { s' with heap := h4 } := fun h4 f4 u4 => J.landed nb f4.1 ((up.trans up3).trans u4) os ag
    have here : Inv X pins σ' H' { s' with heap := h3 } := J.landed nb fly.1 (up.trans up3) os ag
    obtain ⟨oe, vs, he, hz, hd⟩ := fly.there
    have nfr : a ∉ frs (X.env :: X.outer) := fun hm => by
      obtain ⟨_, o', e', no⟩ := fly.2.2.1.mem hm
      rw [he] at e'
      cases e'
      exact no _ hd
    have nL : a ≠ X.env.locals := fun z => nfr (List.mem_filterMap.mpr ⟨X.env, List.mem_cons_self, by rw [hf, z]⟩)
    have nF : a ∉ X.fs := fun hm => by
      obtain ⟨e, h1, h2⟩ := List.mem_filterMap.mp hm
      exact nfr (List.mem_filterMap.mpr ⟨e, List.mem_cons_of_mem _ h1, h2⟩)
    refine clauses_run hf hN hi hln tk ok na nL nF here land fly (fun wo h4 held u4 => ?_) hc w
    exact ⟨a, B, sI, pins, σ', H', cls, d, rfl, J, nb, (up.trans up3).trans u4, .inr (.inr (by rw [hs]; exact held)), na, os, ag, wo⟩
end
end Nv
set_option Elab.async false
set_option linter.all false
set_option maxRecDepth 100000
/-! own exceptions with two fields: what, and kind, the name of their class -/
namespace Nv
open PySem PySem.Spec PyProof.Rows L2
/-- what an exception tells of its class C and of the class's name -/
structure ExcN (K : PySem.W.Frag) (C : Addr) (nm : Str) : Prop where
  ga : PySem.W.findIn K (.ref C) "__getattribute__" = some (some (.builtin "BaseException.__getattribute__"))
  gg : PySem.W.findIn K (.ref C) "__getattr__" = some none
  exC : PySem.W.subIn K (.ref C) (.type "BaseException") = some true
  isc : PySem.W.isClsIn K C = true
  ca : PySem.W.findIn K (.ref C) "__class__" = some (some (.builtin "object.__class__"))
  cn : PySem.W.specialIn K (.builtin "object.__class__") "__get__" = some (some (.builtin "getset_descriptor.__get__"))
  ct : PySem.W.takesIn K (.builtin "object.__class__") = some true
  cm : PySem.W.mroIn K C (.type "object") = some true
  rd : PySem.W.readsIn K C (.type "type") = true
  fn : PySem.W.findCls K (.ref C) (.type "type") "__name__" = some (.get (.builtin "getset_descriptor.__get__") (.builtin "type.__name__") (.ref C) (.type "type"))
  sl : ∃ c d dt sl tk, K.lookup C = some ⟨c, d, dt, sl⟩ ∧ sl[2]? = some (some (.str nm tk))
  nk : PySem.W.findIn K (.ref C) "kind" = some none
section
open PySem.Calls Builtin.Getset_descriptor
variable {prog : Program} {w : World} {A : Around} {E : Value → Shared → Prop} {s : Shared} {K : PySem.W.Frag} {x D : Addr} {ox : Obj} {od : Option Obj} {nm : Str}
theorem exc_cls {expr : Bool} {Q : Value → Shared → Prop} (N : ExcN K D nm) (hf : PySem.W.findObj K D od "__class__" = some (.bind (.builtin "getset_descriptor.__get__") (.builtin "object.__class__")))
    (X : K.In s.heap) (I : PySem.W.InstAt s.heap x ox D od) (h : Q (.ref D) { s with toks := s.toks + 1 }) : wpAny (model prog w) A (getAttr (.ref x) "__class__" expr) Q E s := by
  obtain ⟨hp, g, d, t, os⟩ := s
  have L0 := I.type (M := model prog w)
  have L1 := PySem.W.looks_findIn (M := model prog w) X N.ga
  have L2 := PySem.W.looks_findIn (M := model prog w) X N.gg
  have L3 := PySem.W.looks_find (M := model prog w) X I hf
  have sub : PySem.W.Looks (model prog w) hp (isInstance (.ref x) (.type "BaseException")) true := L0.andThen (PySem.W.looks_subIn X N.exC)
  have hx0 : (expr && onTheHeap (Value.builtin "BaseException.__getattribute__")) = false := by cases expr <;> rfl
  have hx2 : (Value.builtin "BaseException.__getattribute__" == Value.builtin "object.__getattribute__") = false := by decide +kernel
  have hx1 : (onTheHeap (Value.ref D) && Value.builtin "BaseException.__getattribute__" == Value.builtin "object.__getattribute__") = false := by rw [hx2]; rfl
  unfold getAttr getAttrBy
  refine wpAny_bind (wpAny_mkText (wpAny_holding (wpAny_bind (L0.at (wpAny_bind (L1.at ?_))))))
  show wpAny _ _ (if (onTheHeap (Value.ref D) && Value.builtin "BaseException.__getattribute__" == Value.builtin "object.__getattribute__") = true then _ else _) _ _ _
  rw [hx1, if_neg Bool.false_ne_true]
  unfold getAttrByItsOwn hookBefore
  refine wpAny_bind ?_
  rw [if_pos (show onTheHeap (Value.ref D) = true from rfl)]
  refine L2.at ?_
  refine wpAny_bind (wpAny_attempt (wpAny_holding ?_))
  unfold callGetattribute
  rw [hx0, if_neg Bool.false_ne_true]
  unfold boundAndCalled
  rw [PySem.F.excAttr_ValueError.ga.bind (.ref x)]
  refine wpAny_bind (wpAny_pure ?_)
  show wpAny _ _ (call (.builtin "BaseException.__getattribute__") [.ref x, .str "__class__" t]) _ _ _
  refine wpAny_call (codeAny_call_builtin PySem.F.excAttr_ValueError.ga.plain PySem.F.entry_bexc_ga ?_)
  refine @PySem.W.check_slot (model prog w) _ _ ⟨hp, g, d, t + 1, os⟩ "BaseException.__getattribute__" "BaseException" "__getattribute__" (.ref x) [.str "__class__" t] [] _ (by decide +kernel) (by decide +kernel) sub (PySem.F.args_bexc_ga (.ref x) (.str "__class__" t)) ?_
  unfold Builtin.«object.__getattribute__»
  refine wpAny_bind (wpAny_of_eq (a := ((Value.ref x : Value), [Value.str "__class__" t])) (by first | rfl | (simp only [slotArgs]; rfl)) ?_)
  refine wpAny_bind (wpAny_pure (wpAny_bind (L0.at (wpAny_bind (L3.at ?_)))))
  show wpAny _ _ (holding [Value.builtin "object.__class__"] (call (.builtin "getset_descriptor.__get__") [.builtin "object.__class__", .ref x, .ref D]) >>= ret) _ _ _
  refine wpAny_bind (wpAny_holding (wpAny_call (PySem.W.class_get (s := ⟨hp, g, d, t + 1, os⟩) (ox := ox) (od := od) X I N.cm ?_)))
  refine wpAny_pure ?_
  show wpAny _ _ (handedOut (.ref D)) _ _ _
  rw [PySem.W.handedOut_of (v := .ref D) rfl]
  first
    | exact wpAny_pure (wpAny_pure h)
    | exact wpAny_pure h
    | exact wpAny_pure (wpAny_bind (wpAny_pure (wpAny_pure h)))
theorem cname_get {tp v : Value} {R : Result → Shared → Prop} (X : K.In s.heap) (ht : PySem.W.typeIn K (.ref D) = some (.type "type")) {c : Value} {dd : Option Addr} {dt : Data} {sl : Array (Option Value)} (hC : K.lookup D = some ⟨c, dd, dt, sl⟩) (hs : sl[2]? = some (some v))
    (h : R (.ok (.ret v)) s) : codeAny (model prog w) A (.call (.builtin "getset_descriptor.__get__") ⟨[.builtin "type.__name__", .ref D, tp], []⟩) R s := by
  obtain ⟨hh, g, dr, t, os⟩ := s
  have L0 : PySem.W.Looks (model prog w) hh (typeOf (.ref D)) (.type "type") := PySem.W.looks_typeIn X ht
  have L1 : PySem.W.Looks (model prog w) hh (isSubtype (.type "type") (.type "type")) true := PySem.W.Looks.of_pure (by rw [isSubtype_type]; kernel_rfl)
  have ho := X _ _ hC
  dsimp only at ho
  refine codeAny_call_builtin PySem.W.KF.slot_gs.plain PySem.W.KF.entry_gs (PySem.W.KF.slot_gs.check _ _ _ _ _ _ _ _ PySem.W.ktyn_type (PySem.W.KF.args_gs _ _ _) ?_)
  unfold Builtin.«getset_descriptor.__get__» descrGet
  rw [PySem.W.dga_obj]
  refine wpAny_bind (wpAny_pure ?_)
  unfold descrGetter descrCheckInstance descrNameAndClass isInstance
  simp only [PySem.W.ktyn_owner]
  repeat lk
  refine ⟨Code.quiet_builtin _ (by decide +kernel), codeAny_builtin PySem.W.ktyn_entry ?_⟩
  unfold Builtin.«type.__name__»
  dsimp only
  unfold Builtin.keptObject PySem.slotAt
  dsimp only
  refine wpAny_bind (wpAny_bind (wpAny_loadPart_at ho (wpAny_pure ?_)))
  dsimp only
  rw [hs]
  exact wpAny_pure h
theorem exc_name {expr : Bool} {Q : Value → Shared → Prop} (N : ExcN K D nm) (X : K.In s.heap) (h : ∀ tk, Q (.str nm tk) { s with toks := s.toks + 1 }) : wpAny (model prog w) A (getAttr (.ref D) "__name__" expr) Q E s := by
  obtain ⟨c, dd, dt, sl, tk, hC, hs⟩ := N.sl
  have rd := N.rd
  simp only [PySem.W.readsIn, Bool.and_eq_true, beq_iff_eq] at rd
  refine PySem.W.cls_read X N.rd N.fn ?_
  show wpAny _ _ (do ret (← holding [Value.builtin "type.__name__"] (call (.builtin "getset_descriptor.__get__") [.builtin "type.__name__", .ref D, .type "type"]))) _ _ _
  refine wpAny_bind (wpAny_holding (wpAny_call (cname_get (s := { s with toks := s.toks + 1 }) X rd.1.1.1.2 hC hs ?_)))
  exact wpAny_pure (PySem.W.handed_on rfl (h _))
end
/-- e.__class__.__name__, e an exception that is being made -/
def tKind (K : PySem.W.Frag) (te : TE) : TE := fun σ H Q => te σ H fun x H1 => ∃ (a C dx : Addr) (fs : List (Str × V)) (nm : Str), x = .ref a ∧ H1 a = some (exo a C (some dx)) ∧ H1 dx = some (exd dx fs) ∧ ExcN K C nm ∧ Q (.str nm) H1
theorem pe_kind {X : Cx} {e : Expr} {te : TE} {p pos : Pos} (he : PE X e te) (hb : attributeBase e "__class__" X.env (eval e X.env) = eval e X.env := by rfl)
    (hb2 : attributeBase (.Attribute e "__class__" p) "__name__" X.env (eval (.Attribute e "__class__" p) X.env) = eval (.Attribute e "__class__" p) X.env := by rfl) : PE X (.Attribute (.Attribute e "__class__" p) "__name__" pos) (tKind X.K te) := by
  refine ⟨fun pins s σ H Q I h => attr_of hb2 (attr_of hb (thn (he.run pins s σ H _ I h) ?_))⟩
  rintro u s1 ⟨x, H1, I1, rx, a, C, dx, fs, nm, rfl, ea, ed, N, q⟩
  obtain rfl : u = Value.ref a := rx
  obtain ⟨t1, ho⟩ := exo_at I1.hok ea
  obtain ⟨mA, ⟨od, es, ep, ho2, hr⟩, rel⟩ := exd_at I1.hok ed
  have J : PySem.W.InstAt s1.heap a { cls := .ref C, dict := some dx, data := .fields #[.ref t1, .none, .none, .none, .bool false, .none] } C (some od) := ⟨ho, rfl, rfl, ho2⟩
  refine exc_cls N (PySem.W.findObj_data N.isc N.ca N.cn N.ct) I1.kIn J ?_
  refine exc_name (s := { s1 with toks := s1.toks + 1 }) N I1.kIn fun tk => ?_
  exact ⟨.str nm, H1, (I1.tok _).tok _, ⟨tk, rfl⟩, q⟩
/-- a class of the program's exceptions, with the __init__ at fI -/
structure ExcC (K : PySem.W.Frag) (mg : Str → Option Value) (name : Str) (fI : Addr) where
  C : Addr
  g : mg name = some (.ref C)
  o : OexC K C
  i : PySem.W.findIn K (.ref C) "__init__" = some (some (.ref fI))
  ga : PySem.W.findIn K (.ref C) "__getattribute__" = some (some (.builtin "BaseException.__getattribute__"))
  gg : PySem.W.findIn K (.ref C) "__getattr__" = some none
  no : PySem.W.findIn K (.ref C) "what" = some none
  nn : ExcN K C name
  hd : PySem.W.hasDictIn K C = true
  isc : PySem.W.isClsIn K C = true
/-- does 'except B' take an exception of the class A -/
theorem exm_is {K : PySem.W.Frag} {mg : Str → Option Value} {nA nB : Str} {fA fB : Addr} (A : ExcC K mg nA fA) (B : ExcC K mg nB fB) {b : Bool} (h : PySem.W.subIn K (.ref A.C) (.ref B.C) = some b) : PySem.W.exmOne K (.ref A.C) (.ref B.C) = some b := by
  have h1 : (PySem.W.subIn K (.ref B.C) (.type "BaseException") == some true) = true := by rw [B.o.exC] <;> rfl
  have h2 : ((PySem.W.clsIn K B.C).isSome && PySem.W.typeIn K (.ref B.C) == some (.type "type")) = true := by
    have e : (PySem.W.clsIn K B.C).isSome = true := B.isc
    rw [e, B.o.tyC] <;> rfl
  unfold PySem.W.exmOne
  rw [if_pos h1]
  show (if ((PySem.W.clsIn K B.C).isSome && PySem.W.typeIn K (.ref B.C) == some (.type "type")) = true then PySem.W.subIn K (.ref A.C) (.ref B.C) else none) = some b
  rw [if_pos h2]
  exact h
/-- __init__(self, what) -/
def sp_init (K : PySem.W.Frag) : Sp := fun vs H Q _ => ∃ (a C : Addr) (y : V) (nm : Str), vs = [.ref a, y] ∧ H a = some (exo a C none) ∧ OexC K C ∧ PySem.W.findIn K (.ref C) "what" = some none ∧ ExcN K C nm ∧
  ∀ dx, H dx = none → dx ≠ a → Q .non (upd (upd H dx (exd dx [("kind", .str nm), ("what", y)])) a (exo a C (some dx)))
abbrev xdW (nm : Str) (y : V) : HO := .xd [(("kind" : Str), V.str nm), (("what" : Str), y)]
/-- at dx: the dict of an exception of the program, its what is y -/
def XdAt (H : Hp) (dx : Addr) (y : V) : Prop := ∃ nm, H dx = some (xdW nm y)
/-- X(e) -/
def tMkX (C : Addr) (nm : Str) (te : TE) : L2.St → Hp → XK → Prop := fun σ H Q => te σ H fun y H1 => ∀ d, H1 d = none → Q (.ref C) (some d) (upd H1 d (xdW nm y))
/-- a word between an expression and what follows -/
def tMd (t : TE) : TE := fun σ H Q => ∃ M : VK, t σ H M ∧ ∀ v H', M v H' → Q v H'
theorem pe_md {X : Cx} {e : Expr} {t : TE} (h : PE X e t) : PE X e (tMd t) := ⟨fun pins s σ H Q I ⟨M, h1, h2⟩ => thn (h.run pins s σ H M I h1) fun u s' ⟨v, H', I', r, m⟩ => ⟨v, H', I', r, h2 v H' m⟩⟩
section
variable {X : Cx} {name : Str} {fI : Addr} {k : Nat} {fd : FuncData} {e : Expr} {te : TE} {p pos : Pos}
theorem pmk_X (D : ExcC X.K X.mg name fI) (tI : PySem.W.typeIn X.K (.ref fI) = some (.type "function")) (F : FnOk X.prog X.w X.K X.mg X.base CX0 k fI fd ["self", "what"] (sp_init X.K)) (hr : Room (k + 1) X.A) (hb : Binds X.K fd ["self", "what"] []) (hg : Gl X name)
    (he : PE X e te) (hdb : (name == ("__debug__" : Str)) = false := by decide) (hs : starEach (e :: []) X.env = (false, eval e X.env) :: starEach [] X.env := by rfl) (hpl : (backTo pos (starEach [] X.env)).any (·.1) = false := by rfl) :
    PMk X (.Call (.Name name p) [e] [] pos) (tMkX D.C name te) := by
  intro pins s σ H Q I h
  refine pmk_oex (ta := tCons (tMd te) tNil) D.o D.i tI F hr hb (.nil : Vals [] []) pass0 hg D.g (pa_cons (pe_md he) pa_nil hs) hdb hs hpl pins s σ H Q I ?_
  refine ⟨_, h, fun y H1 hy => ⟨(by show 1 ≤ 1000; decide), fun a na => ⟨a, D.C, y, name, rfl, upd_same, D.o, D.no, D.nn, fun dx nd ne => ?_⟩⟩⟩
  have nd1 : H1 dx = none := by rw [← nd, upd_ne ne]
  refine ⟨rfl, dx, [(("kind" : Str), V.str name), (("what" : Str), y)], upd_same, ?_, nd1, ?_⟩
  · rw [upd_ne ne, upd_same]
  · have e : upd (del (upd (upd (upd H1 a (exo a D.C none)) dx (exd dx [("kind", .str name), ("what", y)])) a (exo a D.C (some dx))) a) dx (xdW name y) = upd H1 dx (xdW name y) := by
      funext b
      by_cases h1 : b = dx
      · rw [h1, upd_same, upd_same]
      · rw [upd_ne h1, upd_ne h1]
        by_cases h2 : b = a
        · rw [h2, del_same, na]
        · rw [del_ne h2, upd_ne h2, upd_ne h1, upd_ne h2]
    rw [e]
    exact hy dx nd1
/-- e.what, e the exception that the suite holds at a -/
def tWhat (C a : Addr) (cls : Value) (d : Option Addr) (te : TE) : TE := fun σ H Q => te σ H fun x H1 => x = .ref a ∧ cls = .ref C ∧ ∃ (dd : Addr) (y : V), d = some dd ∧ XdAt H1 dd y ∧ Q y H1
theorem pe_what {a : Addr} {oe : Obj} {cls : Value} {d : Option Addr} {pn : List (Addr × Obj)} (D : ExcC X.K X.mg name fI) (hz : Zc cls d oe) (hf : ∃ vs, oe.data = .fields vs) (he : PE (X.suite a ((a, oe) :: pn)) e te)
    (hb : attributeBase e "what" X.env (eval e X.env) = eval e X.env := by rfl) : PE (X.suite a ((a, oe) :: pn)) (.Attribute e "what" pos) (tWhat D.C a cls d te) := by
  refine ⟨fun pins s σ H Q I h => attr_of hb (thn (he.run pins s σ H _ I h) ?_)⟩
  rintro u s1 ⟨x, H1, I1, rx, rfl, rfl, dd, y, rfl, ⟨nm, ea⟩, q⟩
  obtain rfl : u = Value.ref a := rx
  obtain ⟨ha, _⟩ := I1.pin (a, oe) (List.mem_append_left _ List.mem_cons_self)
  obtain ⟨vs, hd⟩ := hf
  obtain ⟨mA, hns, hr⟩ : ObjOk X.prog X.w H1 s1.heap dd (xdW nm y) := I1.hok dd _ ea
  obtain ⟨od, ho, hl⟩ := lookIn_ns hns
  have l : List.lookup ("what" : Str) [(("kind" : Str), V.str nm), (("what" : Str), y)] = some y := by
    rw [lookup_put, if_neg (by decide +kernel), lookup_put, if_pos rfl]
  obtain ⟨u, hu, ru⟩ := RelO.some_of (v := y) (o := mA "what") (by rw [← l]; exact hr "what")
  have J : PySem.W.InstAt s1.heap a oe D.C (some od) := ⟨ha, hz.1, by unfold PySem.W.notCls; rw [hd] <;> rfl, by rw [hz.2]; exact ho⟩
  exact HandSPX.exc_get I1.kIn J D.ga D.gg D.o.exC (PySem.W.findObj_own D.hd D.no rfl (by rw [hl, hu])) (handed_of ru) ⟨y, H1, I1.tok _, ru, q⟩
end
end Nv
set_option Elab.async false
set_option linter.all false
set_option maxRecDepth 100000
/-! several clauses, with a name (slot i) or without; isinstance of the caught error -/
namespace Nv
open PySem PySem.Spec PyProof.Rows L2
def wAll2 (K : PySem.W.Frag) (Wout : WX) (D : Ends) (i : Nat) : List (Bool × Cl) → WX
  | [] => Wout
  | (true, p) :: r => fun cls d σ H => ∃ yes, PySem.W.exmOne K cls p.1 = some yes ∧ (yes = true → ∀ a, H a = none → p.2 a cls d (dropS i D) (σ.set i (some (.ref a))) H) ∧ (yes = false → wAll2 K Wout D i r cls d σ H)
  | (false, p) :: r => fun cls d σ H => ∃ yes, PySem.W.exmOne K cls p.1 = some yes ∧ (yes = true → ∀ a, H a = none → p.2 a cls d D σ H) ∧ (yes = false → wAll2 K Wout D i r cls d σ H)
/-- the clauses, each with its suite's reading -/
inductive Cls2 (X : Cx) (n : Str) : List ExceptHandler → List (Bool × Cl) → Prop
  | none : Cls2 X n [] []
  | one {x : Str} {c : Value} {ts : Addr → Value → Option Addr → TS} {st : Stmt} {more : List Stmt} {np hp : Pos} {hs : List ExceptHandler} {l : List (Bool × Cl)} (nm : Names X x c)
      (su : ∀ (a : Addr) (oe : Obj) (cls : Value) (d : Option Addr) (pn : List (Addr × Obj)), Zc cls d oe → (∃ vs, oe.data = .fields vs) → PSs (X.suite a ((a, oe) :: pn)) (st :: more) (ts a cls d)) (rest : Cls2 X n hs l) :
      Cls2 X n (.ExceptHandler (some (.Name x np)) (some n) (st :: more) hp :: hs) ((true, c, ts) :: l)
  | bare {x : Str} {c : Value} {ts : Addr → Value → Option Addr → TS} {st : Stmt} {more : List Stmt} {np hp : Pos} {hs : List ExceptHandler} {l : List (Bool × Cl)} (nm : Names X x c)
      (su : ∀ (a : Addr) (oe : Obj) (cls : Value) (d : Option Addr) (pn : List (Addr × Obj)), Zc cls d oe → (∃ vs, oe.data = .fields vs) → PSs (X.suite a ((a, oe) :: pn)) (st :: more) (ts a cls d)) (rest : Cls2 X n hs l) :
      Cls2 X n (.ExceptHandler (some (.Name x np)) none (st :: more) hp :: hs) ((false, c, ts) :: l)
section
variable {X : Cx} {n : Str} {i : Nat} {Wout : WX} {D : Ends} {pins : List (Addr × Obj)} {σ : L2.St} {H : Hp} {B : Heap} {a : Addr} {cls : Value} {d : Option Addr}
/-- the clauses looked at one after the other; the exception at a flies over this frame in the heap h3 -/
theorem clauses_run2 (hf : X.env.frame = some X.env.locals) (hN : X.N.Nodup) (hi : X.N[i]? = some n) (hln : X.env.kindOf n = some .local) (tk : Takes X Wout) {s' : Shared} {h3 : Heap} (ok : X.Ok)
    (na : H a = none) (nL : a ≠ X.env.locals) (nF : a ∉ X.fs) (here : Inv X pins σ H { s' with heap := h3 })
    (land : ∀ h4, HandSPX.FlyingZ B (X.env :: X.outer) a (Zc cls d) h4 → h3.UpToSlots h4 → Inv X pins σ H { s' with heap := h4 }) (fly : HandSPX.FlyingZ B (X.env :: X.outer) a (Zc cls d) h3)
    (out : Wout cls d σ H → ∀ h4, HandSPX.HeldZ B (X.env :: X.outer) a (Zc cls d) X.env.locals h4 → h3.UpToSlots h4 → XE X Wout (.ref a) { s' with heap := h4 }) :
    ∀ {hds : List ExceptHandler} {l : List (Bool × Cl)}, Cls2 X n hds l → wAll2 X.K Wout D i l cls d σ H → wpAny (model X.prog X.w) X.A (handleBy (.ref a) X.env hds) (SP X pins D) X.xe { s' with heap := h3 } := by
  intro hds l hc
  obtain ⟨oe, vs, he, hz, hd⟩ := fly.there
  induction hc with
  | none =>
    intro w
    obtain ⟨_, _, _, _, vs2, T, _, _, he2, _, hd2, h1, _⟩ := id fly
    refine wpAny_handleBy_nil ?_
    unfold PySem.passOn
    refine wpAny_bind (wpAny_field he2 hd2 h1 ?_)
    rw [if_neg (by simp)]
    have leave : wpAny (model X.prog X.w) X.A (setFlight (.ref a) X.env.frame) (fun _ s4 => wpAny (model X.prog X.w) X.A (throw (.ref a) : Sem Flow) (SP X pins D) X.xe s4) X.xe { s' with heap := h3 } := by
      rw [hf]
      exact HandSPX.setFlight_upZ fly fun h4 held up4 => wpAny_throw (tk _ _ (out w h4 held up4))
    first
      | exact wpAny_bind leave
      | exact wpAny_bind (wpAny_pure (wpAny_bind leave))
  | @one x c ts st more np hp hs l nm su rest ih =>
    rintro ⟨yes, hy, w1, w2⟩
    have S3 := here.suite he hd na nL nF
    have cl : PySem.W.Looks (model X.prog X.w) h3 (typeOf (.ref a)) cls := fun A Q E s k q => wpAny_typeOf_ref (k _ _ he) (by rw [hz.1]; exact q)
    refine wpAny_handleBy_cons (codeAny_handlers_test ?_) (fun q => by cases q)
    have named : ∀ {Q E : Value → Shared → Prop}, Q c { s' with heap := h3 } → wpAny (model X.prog X.w) (X.A.mark (some (.ref a))) (eval (.Name x np) X.env) Q E { s' with heap := h3 } := fun {Q E} q => by
      obtain ⟨hg, hdb, hm | ⟨hm, hv, hn⟩⟩ := nm
      · exact ld_glob (X := X.suite a ((a, oe) :: (X.pn ++ pins))) S3 hg hm q hdb
      · exact ld_blt (X := X.suite a ((a, oe) :: (X.pn ++ pins))) S3 hg hm hv q hn hdb
    refine named ((PySem.W.exm_one (M := model X.prog X.w) here.kIn cl hy).here ?_)
    cases yes with
    | false => exact ih (w2 rfl)
    | true =>
      refine codeAny_handlers_suite_as (HandSPX.lands_againZ fly fun h4 fly4 up4 => ?_)
      have J4 := land h4 fly4 up4
      obtain ⟨oe4, vs4, he4, hz4, hd4⟩ := fly4.there
      refine store_ok (X := X.suite a ((a, oe4) :: (X.pn ++ pins))) (v := .ref a) (J4.suite he4 hd4 na nL nF) hN hi (.inl hln) rfl (fun s5 S5 => ?_) (.inr hln)
      have after : ∀ {s6 : Shared} {σ6 : L2.St} {H6 : Hp} {R : Shared → Prop}, Inv (X.suite a ((a, oe4) :: (X.pn ++ pins))) [] σ6 H6 s6 → (∀ s7, Inv X pins (σ6.set i none) H6 s7 → R s7) →
          wpAny (model X.prog X.w) X.A (do bindName X.env n .none; unbindBehindTheSuite X.env n hp) (fun _ s7 => R s7) X.xe s6 := fun {s6 σ6 H6 R} S6 hq => gone_ok (S6.unsuite ok) hN hi hln hq
      refine wpAny_mono ((su a oe4 cls d (X.pn ++ pins) hz4 ⟨_, hd4⟩).run [] s5 _ H _ S5 (w1 rfl a na)) (fun fl s6 hsp => ?_) (fun _ _ z => False.elim z)
      cases fl with
      | ret u =>
        obtain ⟨v, σ6, H6, S6, r, q⟩ := hsp
        exact after S6 fun s7 J7 => ⟨_, _, _, J7, r, q⟩
      | next =>
        obtain ⟨σ6, H6, S6, q⟩ := hsp
        exact after S6 fun s7 J7 => ⟨_, _, J7, q⟩
      | brk =>
        obtain ⟨σ6, H6, S6, q⟩ := hsp
        exact after S6 fun s7 J7 => ⟨_, _, J7, q⟩
      | cont =>
        obtain ⟨σ6, H6, S6, q⟩ := hsp
        exact after S6 fun s7 J7 => ⟨_, _, J7, q⟩
  | @bare x c ts st more np hp hs l nm su rest ih =>
    rintro ⟨yes, hy, w1, w2⟩
    have S3 := here.suite he hd na nL nF
    have cl : PySem.W.Looks (model X.prog X.w) h3 (typeOf (.ref a)) cls := fun A Q E s k q => wpAny_typeOf_ref (k _ _ he) (by rw [hz.1]; exact q)
    refine wpAny_handleBy_cons (codeAny_handlers_test ?_) (fun q => by cases q)
    have named : ∀ {Q E : Value → Shared → Prop}, Q c { s' with heap := h3 } → wpAny (model X.prog X.w) (X.A.mark (some (.ref a))) (eval (.Name x np) X.env) Q E { s' with heap := h3 } := fun {Q E} q => by
      obtain ⟨hg, hdb, hm | ⟨hm, hv, hn⟩⟩ := nm
      · exact ld_glob (X := X.suite a ((a, oe) :: (X.pn ++ pins))) S3 hg hm q hdb
      · exact ld_blt (X := X.suite a ((a, oe) :: (X.pn ++ pins))) S3 hg hm hv q hn hdb
    refine named ((PySem.W.exm_one (M := model X.prog X.w) here.kIn cl hy).here ?_)
    cases yes with
    | false => exact ih (w2 rfl)
    | true =>
      refine codeAny_handlers_suite ?_
      refine HandSPX.lands_againZ fly fun h4 fly4 up4 => ?_
      have J4 := land h4 fly4 up4
      obtain ⟨oe4, vs4, he4, hz4, hd4⟩ := fly4.there
      have S4 := J4.suite he4 hd4 na nL nF
      refine wpAny_mono ((su a oe4 cls d (X.pn ++ pins) hz4 ⟨_, hd4⟩).run [] _ _ H _ S4 (w1 rfl a na)) (fun fl s6 hsp => ?_) (fun _ _ z => False.elim z)
      cases fl with
      | ret u =>
        obtain ⟨v, σ6, H6, S6, r, q⟩ := hsp
        exact ⟨v, σ6, H6, S6.unsuite ok, r, q⟩
      | next =>
        obtain ⟨σ6, H6, S6, q⟩ := hsp
        exact ⟨σ6, H6, S6.unsuite ok, q⟩
      | brk =>
        obtain ⟨σ6, H6, S6, q⟩ := hsp
        exact ⟨σ6, H6, S6.unsuite ok, q⟩
      | cont =>
        obtain ⟨σ6, H6, S6, q⟩ := hsp
        exact ⟨σ6, H6, S6.unsuite ok, q⟩
end
section
variable {X : Cx} {n : Str} {i : Nat} {body : List Stmt} {hd0 : ExceptHandler} {hds : List ExceptHandler} {l : List (Bool × Cl)} {pos : Pos} {tb : WX → TS} {Wout : WX}
theorem ps_try_all2 (hs : X.stack = X.env :: X.outer) (hf : X.env.frame = some X.env.locals) (hN : X.N.Nodup) (hi : X.N[i]? = some n) (hln : X.env.kindOf n = some .local) (tk : Takes X Wout)
    (hb : ∀ (W : WX) (pn : List (Addr × Obj)) (xe : Value → Shared → Prop), Takes (X.tr pn xe) W → PassesOwn (model X.prog X.w) X.A X.env xe → PSs (X.tr pn xe) body (tb W)) (hc : Cls2 X n (hd0 :: hds) l) :
    PS X (.Try body (hd0 :: hds) [] [] pos) (fun D σ H => tb (wAll2 X.K Wout D i l) D σ H) := by
  refine ⟨fun pins s σ H D I h => wpAny_Try_except ?_⟩
  have ok := I.ok
  have hfr : X.A.frames = some (X.env :: X.outer) := by rw [ok.frames, hs]
  have run := (hb (wAll2 X.K Wout D i l) (X.pn ++ pins) (fun e s₁ => wpAny (model X.prog X.w) X.A (noteFrame e X.env) (fun _ s₂ => wpAny (model X.prog X.w) X.A (setFlight e none) (fun _ s₃ => wpAny (model X.prog X.w) X.A (handleBy e X.env (hd0 :: hds)) (SP X pins D) X.xe s₃) X.xe s₂) X.xe s₁)
    (fun u s' xx => ?_) PassesOwn.looking).run [] s σ H D (I.toTry _) h
  · refine wpAny_mono run (fun fl s1 hsp => ?_) (fun e s1 he => he)
    cases fl with
    | ret u =>
      obtain ⟨v, σ', H', J, r, q⟩ := hsp
      exact ⟨v, σ', H', J.ofTry ok, r, q⟩
    | next =>
      obtain ⟨σ', H', J, q⟩ := hsp
      exact wpAny_execs_nil ⟨σ', H', J.ofTry ok, q⟩
    | brk =>
      obtain ⟨σ', H', J, q⟩ := hsp
      exact ⟨σ', H', J.ofTry ok, q⟩
    | cont =>
      obtain ⟨σ', H', J, q⟩ := hsp
      exact ⟨σ', H', J.ofTry ok, q⟩
  · obtain ⟨a, B, sI, _, σ', H', cls, d, rfl, J', nb, up, sky, na, os, ag, w⟩ := xx
    have J : Inv X pins σ' H' sI := J'.ofTry ok
    have sky' : Sky B (X.env :: X.outer) a (Zc cls d) X.env.locals s'.heap := by rw [← hs]; exact sky
    show wpAny (model X.prog X.w) X.A (noteFrame (.ref a) X.env) _ _ _
    refine Sky.land Zc.steady hfr hf sky' fun h3 fly up3 => ?_
    have land : ∀ h4, HandSPX.FlyingZ B (X.env :: X.outer) a (Zc cls d) h4 → h3.UpToSlots h4 → Inv X pins σ' H' { s' with heap := h4 } := fun h4 f4 u4 => J.landed nb f4.1 ((up.trans up3).trans u4) os ag
    have here : Inv X pins σ' H' { s' with heap := h3 } := J.landed nb fly.1 (up.trans up3) os ag
    obtain ⟨oe, vs, he, hz, hd⟩ := fly.there
    have nfr : a ∉ frs (X.env :: X.outer) := fun hm => by
      obtain ⟨_, o', e', no⟩ := fly.2.2.1.mem hm
      rw [he] at e'
      cases e'
      exact no _ hd
    have nL : a ≠ X.env.locals := fun z => nfr (List.mem_filterMap.mpr ⟨X.env, List.mem_cons_self, by rw [hf, z]⟩)
    have nF : a ∉ X.fs := fun hm => by
      obtain ⟨e, h1, h2⟩ := List.mem_filterMap.mp hm
      exact nfr (List.mem_filterMap.mpr ⟨e, List.mem_cons_of_mem _ h1, h2⟩)
    refine clauses_run2 hf hN hi hln tk ok na nL nF here land fly (fun wo h4 held u4 => ?_) hc w
    exact ⟨a, B, sI, pins, σ', H', cls, d, rfl, J, nb, (up.trans up3).trans u4, .inr (.inr (by rw [hs]; exact held)), na, os, ag, wo⟩
end
/-! ### isinstance(e, C), which holds -/
theorem kit_ansT {K : PySem.W.Frag} {x t c : Value} {H : Heap → Prop} (ty : ∀ (M : Model) (h : Heap), K.In h → H h → PySem.W.Looks M h (typeOf x) t) (e : PySem.W.kitOne K t c = some true) : PySem.Answers (fun s => K.In s.heap ∧ H s.heap) x c true := by
  intro dep tk prog w A R s hs
  obtain ⟨h0, g, d, tt, os⟩ := s
  obtain ⟨⟨X, p⟩, hq⟩ := hs
  have LT := ty (model prog w) h0 X p
  unfold PySem.W.kitOne at e
  unfold Builtin.«isinstance.nested»
  refine wpAny_bind (LT.at ?_)
  by_cases q : (t == c) = true
  · rw [if_pos q] at e
    rw [if_pos q]
    first
      | ((repeat lk); exact hq tt)
      | exact wpAny_bind (wpAny_rule (hq tt))
      | exact wpAny_bind (wpAny_rule (wpAny_pure (hq tt)))
  · rw [if_neg q] at e
    rw [if_neg q]
    obtain ⟨hty, his, hsub⟩ := PySem.W.kit_cls (M := model prog w) X e
    have LI : PySem.W.Looks (model prog w) h0 (isInstance x c) true := LT.andThen hsub
    refine wpAny_bind (hty.at ?_)
    rw [if_pos (by decide)]
    k_delta "plainIsInstance"
    refine wpAny_bind (wpAny_bind (his.at ?_))
    simp only [Bool.not_true, Bool.false_eq_true, if_false]
    refine wpAny_bind (LI.at ?_)
    first
      | exact wpAny_pure (wpAny_pure (hq tt))
      | (simp only [if_true]; first | exact wpAny_pure (wpAny_pure (hq tt)) | exact wpAny_pure (hq tt) | exact wpAny_bind (wpAny_pure (wpAny_pure (hq tt))))
/-- isinstance(e, c), e the exception that the suite holds at a: it is one -/
def rIsET (K : PySem.W.Frag) (cls : Value) (a : Addr) : List V → Hp → VK → Prop := fun xs H Q => ∃ (c : V) (cv : Value), xs = [.ref a, c] ∧ (∀ u, RelV c u → u = cv) ∧ PySem.W.kitOne K cls cv = some true ∧ Q (.bl true) H
theorem call_isET {X : Cx} {a : Addr} {cls : Value} {d : Option Addr} {oe : Obj} {pn : List (Addr × Obj)} (hz : Zc cls d oe) : CallR (X.suite a ((a, oe) :: pn)) (.builtin "isinstance") (rIsET X.K cls a) := by
  intro pins s σ H xs us Q I r h
  obtain ⟨c, cv, rfl, hcv, e, q⟩ := h
  cases r with
  | cons rx rr =>
    cases rr with
    | cons rt rr =>
      cases rr
      cases rx
      have ec := hcv _ rt
      subst ec
      obtain ⟨hget, _⟩ := I.pin (a, oe) (List.mem_append.mpr (.inl List.mem_cons_self))
      refine PySem.call_isinstance (S := fun _ R s => (X.K.In s.heap ∧ s.heap.get? a = some oe) ∧ ∀ tk, R (.ok (.ret (.bool true))) { s with toks := tk })
        (fun prog w A R s hs => PySem.isinstance_outer (kit_ansT (H := fun h => h.get? a = some oe) (fun M h _ g => ?_) e 0 _ prog w A R s hs) (fun z => nomatch z)) ⟨⟨I.kIn, hget⟩, fun tk => ⟨.bl true, H, I.kept (t' := tk) fun _ _ z => z, rfl, q⟩⟩
      exact fun A' Q' E' s' k q => wpAny_typeOf_ref (k _ _ g) (by rw [hz.1]; exact q)
/-- a class of the program's that is looked at (the base of its own exceptions) -/
structure RefC (K : PySem.W.Frag) (mg : Str → Option Value) (name : Str) where
  C : Addr
  g : mg name = some (.ref C)
  isc : PySem.W.isClsIn K C = true
  ty : PySem.W.typeIn K (.ref C) = some (.type "type")
  be : PySem.W.subIn K (.ref C) (.type "BaseException") = some true
theorem RefC.kit {K : PySem.W.Frag} {mg : Str → Option Value} {n : Str} (B : RefC K mg n) {A : Addr} (h : PySem.W.subIn K (.ref A) (.ref B.C) = some true) : PySem.W.kitOne K (.ref A) (.ref B.C) = some true := by
  unfold PySem.W.kitOne
  split
  · rfl
  · show (if ((PySem.W.clsIn K B.C).isSome && PySem.W.typeIn K (.ref B.C) == some (.type "type")) = true then PySem.W.subIn K (.ref A) (.ref B.C) else none) = some true
    rw [if_pos ?_]
    · exact h
    · have e : (PySem.W.clsIn K B.C).isSome = true := B.isc
      rw [e, B.ty] <;> rfl
theorem RefC.exm {K : PySem.W.Frag} {mg : Str → Option Value} {n : Str} (B : RefC K mg n) {A : Addr} {b : Bool} (h : PySem.W.subIn K (.ref A) (.ref B.C) = some b) : PySem.W.exmOne K (.ref A) (.ref B.C) = some b := by
  have h1 : (PySem.W.subIn K (.ref B.C) (.type "BaseException") == some true) = true := by rw [B.be] <;> rfl
  have h2 : ((PySem.W.clsIn K B.C).isSome && PySem.W.typeIn K (.ref B.C) == some (.type "type")) = true := by
    have e : (PySem.W.clsIn K B.C).isSome = true := B.isc
    rw [e, B.ty] <;> rfl
  unfold PySem.W.exmOne
  rw [if_pos h1]
  show (if ((PySem.W.clsIn K B.C).isSome && PySem.W.typeIn K (.ref B.C) == some (.type "type")) = true then PySem.W.subIn K (.ref A) (.ref B.C) else none) = some b
  rw [if_pos h2]
  exact h
theorem kit_ve {K : PySem.W.Frag} {A : Addr} (h : PySem.W.subIn K (.ref A) (.type "ValueError") = some true) : PySem.W.kitOne K (.ref A) (.type "ValueError") = some true := by
  unfold PySem.W.kitOne
  rw [if_neg (by intro q; cases beq_iff_eq.mp q)]
  show (if PySem.W.kitMeta "ValueError" = true then PySem.W.subIn K (.ref A) (.type "ValueError") else none) = some true
  rw [if_pos (by decide +kernel)]
  exact h
end Nv
set_option Elab.async false
set_option linter.all false
set_option maxRecDepth 100000
namespace Nv
open PySem PySem.Spec PyProof.Rows L2
def topS (i : Nat) : Stmt := PySem.Challenge.pw_neverfour_k08_rows_along_layings.main.body.getD i (.Pass ⟨0, 0, 0, 0⟩)
abbrev s_whole : Stmt := topS 1
abbrev s_whole_within : Stmt := topS 2
abbrev s_tuple_within : Stmt := topS 3
abbrev s_first_rows : Stmt := topS 4
abbrev s_by_meeting : Stmt := topS 5
abbrev s_made_book : Stmt := topS 17
abbrev s_check_form : Stmt := topS 18
abbrev s_has_state_form : Stmt := topS 19
abbrev s_states_along : Stmt := topS 20
abbrev s_some_lot : Stmt := topS 22
abbrev s_lot_on : Stmt := topS 23
abbrev s_sum_of : Stmt := topS 24
abbrev s_made_laying : Stmt := topS 28
abbrev s_is_laying : Stmt := topS 29
abbrev s_check_laying : Stmt := topS 30
abbrev s_state_told : Stmt := topS 31
abbrev s_fits_state : Stmt := topS 32
abbrev s_moves_of : Stmt := topS 33
abbrev s_lots_of : Stmt := topS 34
abbrev s_place_at : Stmt := topS 35
abbrev s_places_along : Stmt := topS 36
abbrev s_lot_of : Stmt := topS 37
abbrev s_lots_along : Stmt := topS 38
abbrev s_total_of : Stmt := topS 39
abbrev s_met : Stmt := topS 40
abbrev s_seen : Stmt := topS 41
abbrev s_seen_part : Stmt := topS 42
abbrev s_nought : Stmt := topS 43
abbrev s_first_nought : Stmt := topS 44
abbrev s_law_pool : Stmt := topS 46
abbrev s_law_draw : Stmt := topS 47
abbrev s_law_pick : Stmt := topS 48
abbrev s_law_turned : Stmt := topS 49
abbrev s_law_book_meeting : Stmt := topS 50
abbrev s_law_book_messages : Stmt := topS 51
abbrev s_law_book_drawn : Stmt := topS 52
abbrev s_law_book_row : Stmt := topS 53
abbrev s_law_lay_lot : Stmt := topS 54
abbrev s_law_lay_full : Stmt := topS 55
abbrev s_law_lay_drawn : Stmt := topS 56
abbrev s_law_lay_step : Stmt := topS 57
abbrev s_law_lay_sum : Stmt := topS 58
abbrev s_law_lay_walk : Stmt := topS 59
abbrev s_law_heard : Stmt := topS 60
abbrev s_law_with_noughts : Stmt := topS 61
abbrev s_law_met : Stmt := topS 62
abbrev s_law_nought : Stmt := topS 63
abbrev s_law_seen_right : Stmt := topS 64
abbrev s_law_long_right : Stmt := topS 65
abbrev s_law : Stmt := topS 66
structure DefAt (K : PySem.W.Frag) (mg : Str → Option Value) (name : Str) (st : Stmt) (ps : List Str) where
  f : Addr
  fd : FuncData
  F : Fun K name name st f fd
  g : mg name = some (.ref f)
  bd : ∀ us : List Value, us.length = ps.length → bindArgs fd ⟨us, []⟩ = pure (ps.zip us)
structure FunE (K : PySem.W.Frag) (x qual : Str) (st : Stmt) (dvs : List V) (f : Addr) (fd : FuncData) : Prop where
  d : FunD K x qual (defArgs st) (defBody st) (defScope st) dvs [] f fd
theorem FunE.kp {K : PySem.W.Frag} {x qual : Str} {st : Stmt} {dvs : List V} {f : Addr} {fd : FuncData} (F : FunE K x qual st dvs f fd) : PySem.W.keepIn K (.ref f) = true := F.d.kp
theorem FunE.ok {P : Program} {w : World} {K : PySem.W.Frag} {mg : Str → Option Value} {base : Heap} {x qual : Str} {st : Stmt} {dvs : List V} {f : Addr} {fd : FuncData} {N ps : List Str} {k : Nat} {sp : Sp} (F : FunE K x qual st dvs f fd) (S : FnScope N ps (defScope st)) (len : ∀ vs H Q E, sp vs H Q E → vs.length = ps.length)
    (hbody : ∀ (cdv : Value) (A : Around) (outer : List Env) (s : Shared) (H : Hp) (vs : List V) (Q : VK) (E : XK), Room k (A.deeper (envOfC qual (defScope st) s.heap.objs.size f cdv)) → sp vs H Q E →
      ∃ t, PSs (cxOf CX0 P w K mg base N qual (defScope st) f cdv A outer s H E).nox (defBody st) t ∧ t { nx := fun _ H' => Q .non H', rt := Q } (start N vs) H) : FnOk P w K mg base CX0 (k + 1) f fd ps sp :=
  F.d.ok S len fun cdv A outer s H vs Q E hr hsp => by
    obtain ⟨t, h, q⟩ := hbody cdv A outer s H vs Q E hr hsp
    exact ⟨t, h.nox, q⟩
structure DefAtD (K : PySem.W.Frag) (mg : Str → Option Value) (name : Str) (st : Stmt) (ps : List Str) (dvs : List V) where
  f : Addr
  fd : FuncData
  F : FunE K name name st dvs f fd
  g : mg name = some (.ref f)
  b : Binds K fd ps []
  bD : ∃ ds, Vals dvs ds ∧ Binds K fd ps ds
theorem DefAt.b {K : PySem.W.Frag} {mg : Str → Option Value} {n : Str} {st : Stmt} {ps : List Str} (D : DefAt K mg n st ps) : Binds K D.fd ps [] := .all D.bd
theorem DefAt.bind1 {K : PySem.W.Frag} {mg : Str → Option Value} {n x : Str} {st : Stmt} (D : DefAt K mg n st [x]) (s : Shared) (v : Value) : BindsTo s D.fd ⟨[v], []⟩ [(x, v)] := .of_eq (D.bd [v] rfl)
theorem Room.units0 {k : Nat} {A : Around} (hr : Room k A) : A.units + 1 < cLine := hu_of hr
abbrev s_init : Stmt := match topS 7 with
  | .ClassDef _ _ _ b _ _ _ _ _ _ _ => b.getD 0 (.Pass ⟨0, 0, 0, 0⟩)
  | s => s
structure InitAt (K : PySem.W.Frag) where
  f : Addr
  fd : FuncData
  F : Fun K "__init__" "Refused.__init__" s_init f fd
  ti : PySem.W.typeIn K (.ref f) = some (.type "function")
  bd : ∀ us : List Value, us.length = 2 → bindArgs fd ⟨us, []⟩ = pure ((["self", "what"] : List Str).zip us)
theorem InitAt.b {K : PySem.W.Frag} (D : InitAt K) : Binds K D.fd ["self", "what"] [] := .all D.bd
structure Tx (K : PySem.W.Frag) (mg : Str → Option Value) where
  whole : DefAt K mg "whole" s_whole ["thing"]
  whole_within : DefAt K mg "whole_within" s_whole_within ["thing", "low", "high"]
  tuple_within : DefAt K mg "tuple_within" s_tuple_within ["thing", "low", "high"]
  first_rows : DefAtD K mg "first_rows" s_first_rows ["states", "start"] [.int 0]
  by_meeting : DefAt K mg "by_meeting" s_by_meeting ["states"]
  made_book : DefAt K mg "made_book" s_made_book ["thing"]
  check_form : DefAt K mg "check_form" s_check_form ["thing"]
  has_state_form : DefAt K mg "has_state_form" s_has_state_form ["thing", "many"]
  states_along : DefAt K mg "states_along" s_states_along ["book", "row"]
  some_lot : DefAt K mg "some_lot" s_some_lot ["thing"]
  lot_on : DefAt K mg "lot_on" s_lot_on ["thing", "wires"]
  sum_of : DefAt K mg "sum_of" s_sum_of ["one", "two"]
  made_laying : DefAt K mg "made_laying" s_made_laying ["book", "thing"]
  is_laying : DefAt K mg "is_laying" s_is_laying ["book", "thing"]
  check_laying : DefAt K mg "check_laying" s_check_laying ["book", "thing"]
  state_told : DefAt K mg "state_told" s_state_told ["thing"]
  fits_state : DefAt K mg "fits_state" s_fits_state ["moves", "pairs", "wires", "states"]
  moves_of : DefAt K mg "moves_of" s_moves_of ["book", "laying"]
  lots_of : DefAt K mg "lots_of" s_lots_of ["book", "laying"]
  place_at : DefAt K mg "place_at" s_place_at ["book", "laying", "row"]
  places_along : DefAt K mg "places_along" s_places_along ["book", "laying", "row"]
  lot_of : DefAt K mg "lot_of" s_lot_of ["book", "laying", "row"]
  lots_along : DefAt K mg "lots_along" s_lots_along ["book", "laying", "row"]
  total_of : DefAt K mg "total_of" s_total_of ["wires", "lots"]
  met : DefAt K mg "met" s_met ["book", "laying"]
  seen : DefAt K mg "seen" s_seen ["book", "laying"]
  seen_part : DefAt K mg "seen_part" s_seen_part ["book", "laying"]
  nought : DefAt K mg "nought" s_nought ["book", "laying"]
  first_nought : DefAt K mg "first_nought" s_first_nought ["book", "laying"]
  law_pool : DefAt K mg "_law_pool" s_law_pool ["script"]
  law_draw : DefAt K mg "_law_draw" s_law_draw ["pool", "many"]
  law_pick : DefAt K mg "_law_pick" s_law_pick ["pool", "things"]
  law_turned : DefAt K mg "_law_turned" s_law_turned ["pool", "many"]
  law_book_meeting : DefAt K mg "_law_book_meeting" s_law_book_meeting ["moves"]
  law_book_messages : DefAt K mg "_law_book_messages" s_law_book_messages ["pool", "count"]
  law_book_drawn : DefAt K mg "_law_book_drawn" s_law_book_drawn ["pool", "states", "most"]
  law_book_row : DefAt K mg "_law_book_row" s_law_book_row ["pool", "book", "length"]
  law_lay_lot : DefAt K mg "_law_lay_lot" s_law_lay_lot ["pool", "wires", "most"]
  law_lay_full : DefAt K mg "_law_lay_full" s_law_lay_full ["pool", "wires", "most"]
  law_lay_drawn : DefAt K mg "_law_lay_drawn" s_law_lay_drawn ["pool", "book", "wires", "memory", "most"]
  law_lay_step : DefAt K mg "_law_lay_step" s_law_lay_step ["book", "laying", "place", "message"]
  law_lay_sum : DefAt K mg "_law_lay_sum" s_law_lay_sum ["one", "two"]
  law_lay_walk : DefAt K mg "_law_lay_walk" s_law_lay_walk ["book", "laying", "place", "row"]
  law_heard : DefAt K mg "_law_heard" s_law_heard ["call"]
  law_with_noughts : DefAt K mg "_law_with_noughts" s_law_with_noughts ["pool", "laying"]
  law_met : DefAt K mg "_law_met" s_law_met ["book", "laying"]
  law_nought : DefAt K mg "_law_nought" s_law_nought ["book", "laying"]
  law_seen_right : DefAt K mg "_law_seen_right" s_law_seen_right ["pool", "book", "laying"]
  law_long_right : DefAt K mg "_law_long_right" s_law_long_right ["pool"]
  law : DefAt K mg "law" s_law ["script"]
  init : InitAt K
  x_BadBook : ExcC K mg "BadBook" init.f
  x_Stray : ExcC K mg "Stray" init.f
  x_BadRow : ExcC K mg "BadRow" init.f
  x_BadLaying : ExcC K mg "BadLaying" init.f
  s_BadBook_BadRow : PySem.W.subIn K (.ref x_BadBook.C) (.ref x_BadRow.C) = some false
  s_Stray_BadRow : PySem.W.subIn K (.ref x_Stray.C) (.ref x_BadRow.C) = some false
  s_BadRow_BadRow : PySem.W.subIn K (.ref x_BadRow.C) (.ref x_BadRow.C) = some true
  s_BadLaying_BadRow : PySem.W.subIn K (.ref x_BadLaying.C) (.ref x_BadRow.C) = some false
  r_Refused : RefC K mg "Refused"
  q_BadBook : PySem.W.subIn K (.ref x_BadBook.C) (.ref r_Refused.C) = some true
  v_BadBook : PySem.W.subIn K (.ref x_BadBook.C) (.type "ValueError") = some true
  q_Stray : PySem.W.subIn K (.ref x_Stray.C) (.ref r_Refused.C) = some true
  v_Stray : PySem.W.subIn K (.ref x_Stray.C) (.type "ValueError") = some true
  q_BadRow : PySem.W.subIn K (.ref x_BadRow.C) (.ref r_Refused.C) = some true
  v_BadRow : PySem.W.subIn K (.ref x_BadRow.C) (.type "ValueError") = some true
  q_BadLaying : PySem.W.subIn K (.ref x_BadLaying.C) (.ref r_Refused.C) = some true
  v_BadLaying : PySem.W.subIn K (.ref x_BadLaying.C) (.type "ValueError") = some true
  n_isinstance : mg "isinstance" = none
  n_int : mg "int" = none
  n_bool : mg "bool" = none
  n_tuple : mg "tuple" = none
  n_len : mg "len" = none
  n_list : mg "list" = none
  n_enumerate : mg "enumerate" = none
  n_range : mg "range" = none
  n_dict : mg "dict" = none
  n_all : mg "all" = none
  n_zip : mg "zip" = none
  n_any : mg "any" = none
  n_sorted : mg "sorted" = none
  n_min : mg "min" = none
  n_sum : mg "sum" = none
  n_max : mg "max" = none
  n_ValueError : mg "ValueError" = none
  n_repr : mg "repr" = none
  c_MOST_STATES : ∃ t, mg "MOST_STATES" = some (.int 8 t)
  c_MOST_MESSAGES : ∃ t, mg "MOST_MESSAGES" = some (.int 5 t)
  c_GREATEST_MESSAGE : ∃ t, mg "GREATEST_MESSAGE" = some (.int 99 t)
  c_LONGEST_ROW : ∃ t, mg "LONGEST_ROW" = some (.int 20000 t)
  c_MOST_WIRES : ∃ t, mg "MOST_WIRES" = some (.int 6 t)
  c_MOST_PLACES : ∃ t, mg "MOST_PLACES" = some (.int 2000 t)
end Nv
set_option Elab.async false
set_option linter.all false
set_option maxRecDepth 100000
namespace Nv
open PySem PySem.Spec PyProof.Rows L2
/-! ### what stays -/
/-- all that was tracked is as it was, but for the addresses of L -/
def Ext (L : List Addr) (H H' : Hp) : Prop := ∀ b o, b ∉ L → H b = some o → H' b = some o
theorem Ext.refl {L : List Addr} {H : Hp} : Ext L H H := fun _ _ _ e => e
theorem Ext.trans {L : List Addr} {H H1 H2 : Hp} (a : Ext L H H1) (b : Ext L H1 H2) : Ext L H H2 := fun c o n e => b c o n (a c o n e)
theorem Ext.mono {L M : List Addr} {H H' : Hp} (a : Ext L H H') (s : ∀ x ∈ L, x ∈ M) : Ext M H H' := fun c o n e => a c o (fun z => n (s c z)) e
theorem Ext.weak {L : List Addr} {H H' : Hp} (a : Ext [] H H') : Ext L H H' := a.mono fun x z => nomatch z
theorem Ext.same {L : List Addr} {H H' : Hp} (a : Same H H') : Ext L H H' := fun c o _ e => a c o e
theorem Ext.toSame {H H' : Hp} (a : Ext [] H H') : Same H H' := fun c o e => a c o (by simp) e
theorem Ext.new {L : List Addr} {H : Hp} {p : Addr} {o : HO} (h : H p = none) : Ext L H (upd H p o) := fun b u _ e => by
  rw [upd_ne (ne_of_none e h)]
  exact e
theorem Ext.wr {L : List Addr} {H : Hp} {p : Addr} {o : HO} (h : p ∈ L) : Ext L H (upd H p o) := fun b u n e => by
  rw [upd_ne (fun z => n (by rw [z]; exact h))]
  exact e
theorem Ext.at {L : List Addr} {H H' : Hp} {p : Addr} {o : HO} (a : Ext L H H') (h : H p = some o) (n : p ∉ L) : H' p = some o := a p o n h
theorem Ext.free {H H' : Hp} {p : Addr} (a : Ext [] H H') (h : H' p = none) : H p = none := a.toSame.free h
/-- drop an address that was free -/
theorem Ext.drop {L : List Addr} {H H' : Hp} {p : Addr} (a : Ext (p :: L) H H') (h : H p = none) : Ext L H H' := fun b o n e => a b o (fun z => by
  rcases List.mem_cons.mp z with z | z
  · exact ne_of_none e h z
  · exact n z) e
theorem Ext.drop2 {L : List Addr} {H H1 H' : Hp} {p : Addr} (s : Ext [] H H1) (a : Ext (p :: L) H1 H') (h : H p = none) : Ext L H H' := Ext.drop ((s.weak).trans a) h
/-- at these addresses stand no tuples -/
def Lsts (L : List Addr) (H : Hp) : Prop := ∀ l ∈ L, ∃ o, H l = some o ∧ (∀ xs, o ≠ .tup xs) ∧ ∀ ob u, o ≠ .frz ob u
theorem Lsts.nil {H : Hp} : Lsts [] H := fun _ z => nomatch z
theorem Lsts.not {L : List Addr} {H : Hp} (l : Lsts L H) {a : Addr} {xs : List V} (h : H a = some (.tup xs)) : a ∉ L := fun z => by
  obtain ⟨o, e, n, _⟩ := l a z
  rw [h] at e
  exact n xs (Option.some.inj e).symm
theorem Lsts.notF {L : List Addr} {H : Hp} (l : Lsts L H) {a : Addr} {ob : Obj} {u : HO} (h : H a = some (.frz ob u)) : a ∉ L := fun z => by
  obtain ⟨o, e, _, n⟩ := l a z
  rw [h] at e
  exact n ob u (Option.some.inj e).symm
theorem Ext.tup {L : List Addr} {H H' : Hp} {K : PySem.W.Frag} {a : Addr} {xs : List V} (e : Ext L H H') (l : Lsts L H) (h : SqT K H a xs) : SqT K H' a xs := by
  rcases h with (h | ⟨o, h⟩) | h
  · exact .inl (.inl (e _ _ (l.not h) h))
  · exact .inl (.inr ⟨o, e _ _ (l.notF h) h⟩)
  · exact .inr h
theorem Ext.tz {L : List Addr} {H H' : Hp} {a : Addr} {xs : List V} (e : Ext L H H') (l : Lsts L H) (h : TupZ H a xs) : TupZ H' a xs := by
  obtain ⟨o, h, d⟩ := h
  exact ⟨o, e _ _ (l.notF h) h, d⟩
theorem Ext.frz {L : List Addr} {H H' : Hp} {K : PySem.W.Frag} {a : Addr} {xs : List V} (e : Ext L H H') (n : a ∉ L) (h : SqL K H a xs) : SqL K H' a xs := by
  rcases h with (h | ⟨o, h⟩) | h
  · exact .inl (.inl (e _ _ n h))
  · exact .inl (.inr ⟨o, e _ _ n h⟩)
  · exact .inr h
theorem two_lsts {p l : Addr} {H : Hp} {xs ys : List V} (h1 : H p = some (.lst xs)) (h2 : H l = some (.lst ys)) : Lsts [p, l] H := fun a z => by
  rcases List.mem_cons.mp z with z | z
  · exact ⟨.lst xs, by rw [z]; exact h1, fun _ q => (nomatch q), fun _ _ q => (nomatch q)⟩
  · exact ⟨.lst ys, by rw [List.mem_singleton.mp z]; exact h2, fun _ q => (nomatch q), fun _ _ q => (nomatch q)⟩
theorem one_lst {p : Addr} {H : Hp} {xs : List V} (h1 : H p = some (.lst xs)) : Lsts [p] H := fun a z => ⟨.lst xs, by rw [List.mem_singleton.mp z]; exact h1, fun _ q => (nomatch q), fun _ _ q => (nomatch q)⟩
theorem one_dk {p : Addr} {H : Hp} {xs : List (Key × V)} (h1 : H p = some (.dK xs)) : Lsts [p] H := fun a z => ⟨.dK xs, by rw [List.mem_singleton.mp z]; exact h1, fun _ q => (nomatch q), fun _ _ q => (nomatch q)⟩
theorem one_tbl {p : Addr} {H : Hp} {xs : Array Value} (h1 : H p = some (.tbl xs)) : Lsts [p] H := fun a z => ⟨.tbl xs, by rw [List.mem_singleton.mp z]; exact h1, fun _ q => (nomatch q), fun _ _ q => (nomatch q)⟩
/-! ### a word between an expression and what follows -/
def tMid (t : TE) : TE := fun σ H Q => ∃ M : VK, t σ H M ∧ ∀ v H', M v H' → Q v H'
theorem pe_mid {X : Cx} {e : Expr} {t : TE} (h : PE X e t) : PE X e (tMid t) := ⟨fun pins s σ H Q I ⟨M, h1, h2⟩ => thn (h.run pins s σ H M I h1) fun u s' ⟨v, H', I', r, m⟩ => ⟨v, H', I', r, h2 v H' m⟩⟩
def tMidT (t : TT) : TT := fun σ H Q => ∃ M : Bool → Hp → Prop, t σ H M ∧ ∀ v H', M v H' → Q v H'
theorem pt_mid {X : Cx} {e : Expr} {t : TT} (h : PT X e t) : PT X e (tMidT t) := ⟨fun pins s σ H Q I ⟨M, h1, h2⟩ => thn (h.run pins s σ H M I h1) fun u s' ⟨H', I', m⟩ => ⟨H', I', h2 _ H' m⟩⟩
/-! ### data: ints -/
theorem ints_lay : ∀ ns : List Int, PyData.canLayAll0 (ns.map PyData.int) = true
  | [] => rfl
  | n :: r => by simp [PyData.canLayAll0, PyData.canLay0, ints_lay r]
theorem ints_depth : ∀ ns : List Int, PyData.depthAll (ns.map PyData.int) = 0
  | [] => rfl
  | n :: r => by simp [PyData.depthAll, PyData.depth, ints_depth r]
theorem ints_show : ∀ ns : List Int, (∀ n ∈ ns, 0 ≤ n ∧ n < 1000) → PyData.showableAll (ns.map PyData.int) = true
  | [], _ => rfl
  | n :: r, h => by
    have h1 := h n (by simp)
    have h2 : n.natAbs.log2 < 1920 := Nat.lt_of_le_of_lt (Nat.log2_le_self _) (by omega)
    simp [PyData.showableAll, PyData.showable, ints_show r fun m hm => h m (by simp [hm]), h2]
theorem ints_nodict : ∀ ns : List Int, PyData.hasDictAll (ns.map PyData.int) = false
  | [] => rfl
  | n :: r => by simp [PyData.hasDictAll, PyData.hasDict, ints_nodict r]
theorem ints_eqv : ∀ ns ms : List Int, PyData.eqvAll (ns.map PyData.int) (ms.map PyData.int) = decide (ns = ms)
  | [], [] => by simp [PyData.eqvAll]
  | [], m :: q => by simp [PyData.eqvAll]
  | n :: r, [] => by simp [PyData.eqvAll]
  | n :: r, m :: q => by
    simp only [List.map_cons, PyData.eqvAll, PyData.eqv, ints_eqv r q, List.cons.injEq]
    by_cases h : n = m <;> simp [h]
theorem dp_ints {K : PySem.W.Frag} {H : Hp} : ∀ (ns : List Int), DpAll K H (ns.map V.int) (ns.map PyData.int)
  | [] => .nil
  | n :: r => .cons (.int n) (dp_ints r)
theorem shaped_ints (ns : List Int) : SeqAt.shaped (.list (ns.map PyData.int)) = true := by simp [SeqAt.shaped, PyData.canLay0, ints_lay, PyData.depth, ints_depth]
theorem shaped_intsT (ns : List Int) : SeqAt.shaped (.tuple (ns.map PyData.int)) = true := by simp [SeqAt.shaped, PyData.canLay0, ints_lay, PyData.depth, ints_depth]
theorem eqv_nil {ns : List Int} : PyData.eqv (.list (ns.map PyData.int)) (.list []) = decide (ns = []) := by
  have h := ints_eqv ns []
  simpa [PyData.eqv] using h
/-! ### books -/
abbrev State := List (Nat × Nat)
abbrev Book := List State
def MvV (K : PySem.W.Frag) (H : Hp) (p : Addr) (m : Nat × Nat) : Prop := SqT K H p [.int m.1, .int m.2]
def StV (K : PySem.W.Frag) (H : Hp) (v : V) (s : State) : Prop := ∃ (a : Addr) (ps : List Addr), v = .ref a ∧ TupZ H a (ps.map V.ref) ∧ Paired (MvV K H) ps s
def BkV (K : PySem.W.Frag) (H : Hp) (v : V) (b : Book) : Prop := ∃ (a : Addr) (vs : List V), v = .ref a ∧ SqT K H a vs ∧ Paired (StV K H) vs b
theorem Paired.imp {α β : Type} {F G : α → β → Prop} : ∀ {l₁ : List α} {l₂ : List β}, Paired F l₁ l₂ → (∀ a b, F a b → G a b) → Paired G l₁ l₂
  | _, _, .nil, _ => .nil
  | _, _, .cons r t, f => .cons (f _ _ r) (Paired.imp t f)
theorem Paired.get {α β : Type} {F : α → β → Prop} : ∀ {l₁ : List α} {l₂ : List β} {i : Nat} {b : β}, Paired F l₁ l₂ → l₂[i]? = some b → ∃ a, l₁[i]? = some a ∧ F a b
  | _, _, _, _, .nil, e => by simp at e
  | _, _, 0, _, .cons r _, e => by cases e; exact ⟨_, rfl, r⟩
  | _, _, i + 1, _, .cons _ t, e => by
    obtain ⟨a, e1, e2⟩ := Paired.get (i := i) t (by simpa using e)
    exact ⟨a, by simpa using e1, e2⟩
theorem Paired.get' {α β : Type} {F : α → β → Prop} : ∀ {l₁ : List α} {l₂ : List β} {i : Nat} {a : α}, Paired F l₁ l₂ → l₁[i]? = some a → ∃ b, l₂[i]? = some b ∧ F a b
  | _, _, _, _, .nil, e => by simp at e
  | _, _, 0, _, .cons r _, e => by cases e; exact ⟨_, rfl, r⟩
  | _, _, i + 1, _, .cons _ t, e => by
    obtain ⟨a, e1, e2⟩ := Paired.get' (i := i) t (by simpa using e)
    exact ⟨a, by simpa using e1, e2⟩
theorem Paired.len {α β : Type} {F : α → β → Prop} : ∀ {l₁ : List α} {l₂ : List β}, Paired F l₁ l₂ → l₁.length = l₂.length
  | _, _, .nil => rfl
  | _, _, .cons _ t => by rw [List.length_cons, List.length_cons, Paired.len t]
theorem Paired.snoc {α β : Type} {F : α → β → Prop} {a : α} {b : β} (h : F a b) : ∀ {l₁ : List α} {l₂ : List β}, Paired F l₁ l₂ → Paired F (l₁ ++ [a]) (l₂ ++ [b])
  | _, _, .nil => .cons h .nil
  | _, _, .cons r t => .cons r (Paired.snoc h t)
theorem StV.ext {L : List Addr} {H H' : Hp} {K : PySem.W.Frag} {v : V} {s : State} (e : Ext L H H') (l : Lsts L H) (h : StV K H v s) : StV K H' v s := by
  obtain ⟨a, ps, rfl, h1, h2⟩ := h
  exact ⟨a, ps, rfl, e.tz l h1, Paired.imp h2 fun _ _ q => e.tup l q⟩
theorem BkV.ext {L : List Addr} {H H' : Hp} {K : PySem.W.Frag} {v : V} {b : Book} (e : Ext L H H') (l : Lsts L H) (h : BkV K H v b) : BkV K H' v b := by
  obtain ⟨a, vs, rfl, h1, h2⟩ := h
  exact ⟨a, vs, rfl, e.tup l h1, Paired.imp h2 fun _ _ q => q.ext e l⟩
theorem BkV.ext0 {H H' : Hp} {K : PySem.W.Frag} {v : V} {b : Book} (h : BkV K H v b) (e : Ext [] H H') : BkV K H' v b := h.ext e Lsts.nil
theorem StV.ext0 {H H' : Hp} {K : PySem.W.Frag} {v : V} {s : State} (h : StV K H v s) (e : Ext [] H H') : StV K H' v s := h.ext e Lsts.nil
/-- values -/
theorem atN {xs : List V} {i : Nat} {v : V} (h : xs[i]? = some v) : atI xs (i : Int) = some v := atI_nat h
abbrev nV (n : Nat) : V := .int (n : Int)
theorem map_at {α : Type} {f : α → V} {xs : List α} {i : Nat} {y : V} (h : (xs.map f)[i]? = some y) : ∃ x, xs[i]? = some x ∧ y = f x := by
  rw [List.getElem?_map] at h
  cases e : xs[i]? with
  | none => rw [e] at h; cases h
  | some x => rw [e] at h; exact ⟨x, rfl, (Option.some.inj h).symm⟩
theorem at_map {α : Type} {f : α → V} {xs : List α} {i : Nat} {x : α} (h : xs[i]? = some x) : (xs.map f)[i]? = some (f x) := by rw [List.getElem?_map, h]; rfl
theorem dec_int {a b : Int} : decide (V.int a = V.int b) = decide (a = b) := by
  by_cases h : a = b
  · subst h; simp
  · rw [decide_eq_false h, decide_eq_false fun e => h (V.int.inj e)]
theorem ifB {b : Bool} {A B : Prop} (h1 : b = true → A) (h2 : b = false → B) : if b = true then A else B := by
  cases b
  · exact iteF (h2 rfl)
  · exact iteT (h1 rfl)
theorem flat_nV (F : List Nat) : (F.map nV).all flatV = true := by
  rw [List.all_eq_true]
  intro v hv
  obtain ⟨n, _, rfl⟩ := List.mem_map.mp hv
  rfl
theorem eqV_nV (a b : Nat) : eqV (nV a) (nV b) = decide (a = b) := by
  unfold nV eqV
  by_cases h : a = b
  · subst h; simp
  · have h2 : ¬ ((a : Int) = (b : Int)) := fun e => h (by omega)
    simp [h, h2]
theorem inV_nV (t : Nat) (F : List Nat) : inV (nV t) (F.map nV) = decide (t ∈ F) := by
  unfold inV
  rw [List.any_map]
  by_cases h : t ∈ F
  · rw [decide_eq_true h, List.any_eq_true]
    exact ⟨t, h, by simp [eqV_nV]⟩
  · rw [decide_eq_false h, List.any_eq_false]
    intro x hx
    simp only [Function.comp, eqV_nV, decide_eq_true_eq]
    exact fun e => h (e ▸ hx)
/-- lists of moves that are not closed yet -/
def LsV (K : PySem.W.Frag) (H : Hp) (v : V) (s : State) : Prop := ∃ (a : Addr) (ps : List Addr), v = .ref a ∧ H a = some (.lst (ps.map V.ref)) ∧ Paired (MvV K H) ps s
def LbV (K : PySem.W.Frag) (H : Hp) (v : V) (b : Book) : Prop := ∃ (a : Addr) (vs : List V), v = .ref a ∧ H a = some (.lst vs) ∧ Paired (LsV K H) vs b
theorem LsV.ext0 {H H' : Hp} {K : PySem.W.Frag} {v : V} {s : State} (h : LsV K H v s) (e : Ext [] H H') : LsV K H' v s := by
  obtain ⟨a, ps, rfl, h1, h2⟩ := h
  exact ⟨a, ps, rfl, e.at h1 (by simp), Paired.imp h2 fun _ _ q => e.tup Lsts.nil q⟩
theorem LbV.ext0 {H H' : Hp} {K : PySem.W.Frag} {v : V} {b : Book} (h : LbV K H v b) (e : Ext [] H H') : LbV K H' v b := by
  obtain ⟨a, ps, rfl, h1, h2⟩ := h
  exact ⟨a, ps, rfl, e.at h1 (by simp), Paired.imp h2 fun _ _ q => q.ext0 e⟩
theorem MvV.ext0 {H H' : Hp} {K : PySem.W.Frag} {p : Addr} {m : Nat × Nat} (h : MvV K H p m) (e : Ext [] H H') : MvV K H' p m := e.tup Lsts.nil h
/-- a list that was made behind H may be written -/
theorem Ext.put {H H' : Hp} {p : Addr} {o : HO} (e : Ext [] H H') (h : H p = none) : Ext [] H (upd H' p o) := Ext.drop (e.weak.trans (.wr (by simp))) h
theorem Ext.put' {L : List Addr} {H H' : Hp} {p : Addr} {o : HO} (e : Ext L H H') (h : H p = none) : Ext L H (upd H' p o) := Ext.drop ((e.mono fun x z => List.mem_cons_of_mem _ z).trans (.wr (by simp))) h
theorem Ext.put2 {L : List Addr} {H H' : Hp} {p : Addr} {o : HO} (e : Ext L H H') (h : H' p = none) : Ext L H (upd H' p o) := e.trans (.new h)
theorem StV.put {H : Hp} {K : PySem.W.Frag} {v : V} {s : State} {p : Addr} {xs ys : List V} (h : StV K H v s) (hp : H p = some (.lst xs)) : StV K (upd H p (.lst ys)) v s := h.ext (L := [p]) (.wr (by simp)) (one_lst hp)
theorem MvV.put {H : Hp} {K : PySem.W.Frag} {q : Addr} {m : Nat × Nat} {p : Addr} {xs ys : List V} (h : MvV K H q m) (hp : H p = some (.lst xs)) : MvV K (upd H p (.lst ys)) q m := Ext.tup (L := [p]) (.wr (by simp)) (one_lst hp) h
theorem yes {σ : L2.St} {H : Hp} {A B : Hp → Prop} (h : A H) : tYes σ H (fun b H3 => if b = true then A H3 else B H3) := by
  show if true = true then A H else B H
  exact iteT h
theorem Ext.free2 {L : List Addr} {H H' : Hp} {x : Addr} (e : Ext L H H') (h : H' x = none) (n : x ∉ L) : H x = none := by
  cases q : H x with
  | none => rfl
  | some o =>
    rw [e x o n q] at h
    cases h
theorem eraseIdx_nV {α β : Type} (f : α → β) : ∀ (L : List α) (k : Nat), (L.map f).eraseIdx k = (L.eraseIdx k).map f
  | [], _ => rfl
  | _ :: _, 0 => rfl
  | a :: r, k + 1 => by simp [eraseIdx_nV f r k]
theorem off2 {p l x : Addr} (a : x ≠ p) (b : x ≠ l) : x ∉ [p, l] := fun z => by
  rcases List.mem_cons.mp z with z | z
  · exact a z
  · exact b (List.mem_singleton.mp z)
/-- such a list, not at one of these addresses -/
def LsN (K : PySem.W.Frag) (H : Hp) (X : List Addr) (v : V) (s : State) : Prop := ∃ (a : Addr) (ps : List Addr), v = .ref a ∧ a ∉ X ∧ H a = some (.lst (ps.map V.ref)) ∧ Paired (MvV K H) ps s
theorem LsN.ls {K : PySem.W.Frag} {H : Hp} {X : List Addr} {v : V} {s : State} (h : LsN K H X v s) : LsV K H v s := by
  obtain ⟨a, ps, e, _, h1, h2⟩ := h
  exact ⟨a, ps, e, h1, h2⟩
theorem LsN.ext {K : PySem.W.Frag} {H H' : Hp} {X Y : List Addr} {v : V} {s : State} (h : LsN K H X v s) (e : Ext Y H H') (yx : ∀ y ∈ Y, y ∈ X) (l : Lsts Y H) : LsN K H' X v s := by
  obtain ⟨a, ps, ea, n, h1, h2⟩ := h
  exact ⟨a, ps, ea, n, e _ _ (fun z => n (yx a z)) h1, Paired.imp h2 fun _ _ q => e.tup l q⟩
def mvD (q : Nat × Nat) : PyData := .tuple [.int (q.1 : Int), .int (q.2 : Int)]
theorem dp_mvs {K : PySem.W.Frag} {H : Hp} : ∀ {ps : List Addr} {s : State}, Paired (MvV K H) ps s → DpAll K H (ps.map V.ref) (s.map mvD)
  | _, _, .nil => .nil
  | _, _, .cons r t => .cons (.tup r (.cons (.int _) (.cons (.int _) .nil))) (dp_mvs t)
theorem mvs_lay : ∀ s : State, PyData.canLayAll0 (s.map mvD) = true
  | [] => rfl
  | q :: r => by simp [PyData.canLayAll0, PyData.canLay0, mvs_lay r, mvD]
theorem mvs_depth : ∀ s : State, PyData.depthAll (s.map mvD) ≤ 1
  | [] => by simp [PyData.depthAll]
  | q :: r => by
    have := mvs_depth r
    simp [PyData.depthAll, PyData.depth, mvD]
    omega
theorem shaped_mvs (s : State) : SeqAt.shaped (.list (s.map mvD)) = true := by
  have := mvs_depth s
  simp [SeqAt.shaped, PyData.canLay0, mvs_lay, PyData.depth]
  omega
theorem eqv_mvs_nil (s : State) : PyData.eqv (.list (s.map mvD)) (.list []) = decide (s = []) := by
  cases s <;> simp [PyData.eqv, PyData.eqvAll]
theorem ixNat {k n : Nat} (h : k < n) : ixN n (k : Int) = some k := by
  unfold ixN
  rw [if_pos (by omega), if_pos (by omega)]
  simp
theorem Paired.set {α β : Type} {F : α → β → Prop} {a : α} {b : β} (h : F a b) : ∀ {l₁ : List α} {l₂ : List β} (k : Nat), Paired F l₁ l₂ → Paired F (l₁.set k a) (l₂.set k b)
  | _, _, _, .nil => .nil
  | _, _, 0, .cons _ t => .cons h t
  | _, _, k + 1, .cons r t => .cons r (Paired.set h k t)
/-- the keys of a dict -/
abbrev kN (n : Nat) : Key := Sum.inl (n : Int)
theorem valV_key {kvs : List (Key × V)} {F : List Nat} (h : kvs.map (·.1) = F.map kN) (n : Nat) : (valV kvs (kN n)).isSome = decide (n ∈ F) := by
  rw [← valV_any]
  have e : (kvs.any fun kv => decide (kv.1 = kN n)) = ((kvs.map (·.1)).any fun k => decide (k = kN n)) := by rw [List.any_map]; rfl
  rw [e, h, List.any_map]
  by_cases m : n ∈ F
  · rw [decide_eq_true m, List.any_eq_true]
    exact ⟨n, m, by simp⟩
  · rw [decide_eq_false m, List.any_eq_false]
    intro x hx
    simp only [Function.comp, decide_eq_true_eq]
    intro e
    have e2 : (x : Int) = (n : Int) := Sum.inl.inj e
    exact m (by rw [show n = x by omega]; exact hx)
theorem valV_mem {kvs : List (Key × V)} {k : Key} {v : V} (h : valV kvs k = some v) : (k, v) ∈ kvs := by
  unfold valV at h
  cases e : kvs.find? (fun kv => decide (kv.1 = k)) with
  | none => rw [e] at h; cases h
  | some p =>
    rw [e] at h
    cases h
    have h1 := List.mem_of_find?_eq_some e
    have h2 := List.find?_some e
    simp at h2
    rw [← h2]
    exact h1
/-! ### books whose states are any tuples -/
def StW (K : PySem.W.Frag) (H : Hp) (v : V) (s : State) : Prop := ∃ (a : Addr) (ps : List Addr), v = .ref a ∧ SqT K H a (ps.map V.ref) ∧ Paired (MvV K H) ps s
def BkW (K : PySem.W.Frag) (H : Hp) (v : V) (b : Book) : Prop := ∃ (a : Addr) (vs : List V), v = .ref a ∧ SqT K H a vs ∧ Paired (StW K H) vs b
theorem BkV.wk {K : PySem.W.Frag} {H : Hp} {v : V} {b : Book} (h : BkV K H v b) : BkW K H v b := by
  obtain ⟨a, vs, rfl, h1, h2⟩ := h
  exact ⟨a, vs, rfl, h1, Paired.imp h2 fun _ _ z => by obtain ⟨c, ps, rfl, h3, h4⟩ := z; exact ⟨c, ps, rfl, h3.sq, h4⟩⟩
theorem BkW.ext {L : List Addr} {H H' : Hp} {K : PySem.W.Frag} {v : V} {b : Book} (e : Ext L H H') (l : Lsts L H) (h : BkW K H v b) : BkW K H' v b := by
  obtain ⟨a, vs, rfl, h1, h2⟩ := h
  exact ⟨a, vs, rfl, e.tup l h1, Paired.imp h2 fun _ _ z => by obtain ⟨c, ps, rfl, h3, h4⟩ := z; exact ⟨c, ps, rfl, e.tup l h3, Paired.imp h4 fun _ _ q => e.tup l q⟩⟩
theorem BkW.ext0 {H H' : Hp} {K : PySem.W.Frag} {v : V} {b : Book} (h : BkW K H v b) (e : Ext [] H H') : BkW K H' v b := h.ext e Lsts.nil
end Nv
set_option Elab.async false
set_option linter.all false
set_option maxRecDepth 100000
/-! tuples written out, known to have no dict of their own; tuples many times over -/
namespace Nv
open PySem PySem.Spec PyProof.Rows L2
def tTupZ (t : TA) : TE := fun σ H Q => t σ H fun xs H1 => xs.length ≤ sizeLine ∧ ∀ (p : Addr) (H' : Hp), H1 p = none → (∃ o : Obj, o.dict = none ∧ H' = upd H1 p (.frz o (.tup xs))) → Q (.ref p) H'
theorem pe_tupZ {X : Cx} {es : List Expr} {t : TA} {pos : Pos} {x1 : Nat} (h : PA X es t) : PE X (.Tuple es x1 pos) (tTupZ t) :=
  ⟨fun pins s σ H Q I hq => wpAny_Tuple_spliced (thn (h.run pos pins s σ H _ I hq) fun us s1 ⟨xs, H1, J, rel, small, go⟩ => ⟨by rw [← rel.length]; exact small, by
    have J2 : Inv X pins σ (upd H1 s1.heap.objs.size (.frz { cls := .type "tuple", data := .seq us.toArray } (.tup xs))) { s1 with heap := s1.heap.push { cls := .type "tuple", data := .seq us.toArray } } :=
      J.laid (t' := s1.toks) (fun _ _ e => Heap.get?_push_of_some _ e) (Nat.le_refl _) (show ObjOk X.prog X.w _ _ _ (.frz _ (.tup xs)) from ⟨Heap.get?_push_size _ rfl, small, us, rel, IsTup.new _ _⟩)
    exact ⟨.ref s1.heap.objs.size, _, J2, rfl, go _ _ (J.hok.fresh (Nat.le_refl _)) ⟨_, rfl, rfl⟩⟩⟩)⟩
/-- t * k, up to a hundred thousand members -/
def rRepTB (K : PySem.W.Frag) : R2 := fun x y H Q => ∃ (a : Addr) (k : Nat) (xs : List V), x = .ref a ∧ y = .int (k : Int) ∧ SqT K H a xs ∧ xs ≠ [] ∧ 2 ≤ k ∧ k * xs.length ≤ 100000 ∧ ∀ p, H p = none → Q (.ref p) (upd H p (.tup (List.replicate k xs).flatten))
theorem op_repTB {X : Cx} : OpR X (binaryOp .Mult) (rRepTB X.K) := by
  intro pins s σ H x y v u Q I rx ry h
  obtain ⟨a, k, xs, rfl, rfl, sq, some_, two, few, go⟩ := h
  cases rx
  obtain ⟨tok, rfl⟩ := ry
  obtain ⟨vals, rel, ⟨⟨cl, dic, dat, slo⟩, here, ecl, cap, edat⟩, _⟩ := I.tuple sq
  simp only at ecl edat
  subst ecl edat
  have el : vals.length = xs.length := rel.length.symm
  have pos : 0 < vals.length := by
    rw [el]
    exact List.length_pos_iff.mpr some_
  have few' : k * vals.length ≤ 100000 := by rw [el]; exact few
  have k5 : k ≤ 100000 := Nat.le_trans (Nat.le_mul_of_pos_right k pos) few'
  have notE : vals.toArray.isEmpty = false := by
    cases vals with
    | nil => cases pos
    | cons _ _ => rfl
  have prod : ((vals.toArray.size : Nat) : Int) * (k : Int) ≤ 100000 := by
    rw [List.size_toArray, Int.mul_comm]
    have z : ((k * vals.length : Nat) : Int) ≤ ((100000 : Nat) : Int) := Int.ofNat_le.mpr few'
    rw [Int.natCast_mul] at z
    exact z
  have fits : (List.replicate k vals).flatten.length ≤ sizeLine := by
    rw [PyProof.Rows.lm_len_rep_flat]
    exact Nat.le_trans few' (by decide)
  have b0 : (decide ((k : Int) < -(2 ^ 63)) || decide ((k : Int) ≥ 2 ^ 63)) = false := by
    rw [decide_eq_false (by omega), decide_eq_false (by omega)]
    rfl
  have b1 : (vals.toArray.isEmpty || (k : Int) == 1) = false := by
    rw [notE, Bool.false_or]
    exact beq_eq_false_iff_ne.mpr (by omega)
  have b2 : (decide ((k : Int) ≤ 0) || vals.toArray.isEmpty) = false := by
    rw [notE, Bool.or_false]
    exact decide_eq_false (by omega)
  have b4 : Builtin.Tuple.tupleTooMany (((vals.toArray.size : Nat) : Int) * (k : Int)) = false := by
    unfold Builtin.Tuple.tupleTooMany
    rw [sizeLine_eq]
    exact decide_eq_false (by omega)
  refine wpAny_binaryOp_repeat_ref (T := "tuple") (U := "int") (by decide) ⟨_, here, rfl⟩ (fun s' => typeIs_int s' (k : Int) tok) noFill_tuple_mul F.fills_int_mul F.slot_int_rmul repeat_tuple F.slot_int_index.lookup
    (call_meets F.slot_int_rmul (typeIs_int s (k : Int) tok) F.entry_int_rmul (F.args_int_rmul_2 _ _) (int_rmul_tuple (k : Int) tok a vals.toArray cap dic slo)
      ⟨here, rfl, ⟨_, here, rfl⟩, call_meets F.slot_tuple_mul ⟨_, here, rfl⟩ F.entry_tuple_mul (F.args_tuple_mul_2 _ _) (tuple_mulW a vals.toArray cap dic slo (k : Int) tok b0 b1 b2 (by omega) b4 (by rw [Int.toNat_natCast, size_rep, List.size_toArray]; exact fits)) ⟨here, ?_⟩⟩)
  rw [Int.toNat_natCast, size_rep]
  refine ⟨.ref s.heap.objs.size, _, I.laid (t' := s.toks) (o := .tup (List.replicate k xs).flatten) (fun _ _ e => Heap.get?_push_of_some _ e) (Nat.le_refl _) ?_, rfl, go _ (I.hok.fresh (Nat.le_refl _))⟩
  exact ⟨by rw [PyProof.Rows.lm_len_rep_flat]; exact Nat.le_trans few (by decide), _, rel.rep k, IsTup.new _ _⟩
theorem op_repTBK (K : PySem.W.Frag) {X : Cx} (h : X.K = K := by rfl) : OpR X (binaryOp .Mult) (rRepTB K) := by
  subst h
  exact op_repTB
end Nv
set_option Elab.async false
set_option linter.all false
set_option maxRecDepth 100000
/-! t + u, giving a tuple known to have no dict of its own -/
namespace Nv
open PySem PySem.Spec PyProof.Rows L2
/-- t + u, where t has some member; t + () is t itself -/
def rCatZ (K : PySem.W.Frag) : R2 := fun x y H Q => ∃ a b xs ys, x = .ref a ∧ y = .ref b ∧ SqT K H a xs ∧ SqT K H b ys ∧ xs ≠ [] ∧ xs.length + ys.length ≤ sizeLine ∧ (ys = [] → Q (.ref a) H) ∧
  (ys ≠ [] → ∀ (p : Addr) (H' : Hp), H p = none → (∃ o : Obj, o.dict = none ∧ H' = upd H p (.frz o (.tup (xs ++ ys)))) → Q (.ref p) H')
theorem op_catZ {X : Cx} : OpR X (binaryOp .Add) (rCatZ X.K) := by
  intro pins s σ H x y v u Q I rx ry h
  obtain ⟨a, b, xs, ys, rfl, rfl, ha, hb, hx, hz, q1, q2⟩ := h
  cases rx
  cases ry
  obtain ⟨its, r1, p1, _⟩ := I.tuple ha
  obtain ⟨its2, r2, p2, _⟩ := I.tuple hb
  refine HT.cat_tup p1 p2 (fun z => hx (r1.nil_iff.mp z)) (fun z => ⟨.ref a, H, I, rfl, q1 (r2.nil_iff.mp z)⟩) (fun z => ?_) (by rw [← r1.length, ← r2.length]; exact hz)
  refine ⟨.ref s.heap.objs.size, _, I.laid (t' := s.toks) (o := .frz { cls := .type "tuple", data := .seq (its ++ its2).toArray } (.tup (xs ++ ys))) (fun b ob q => Heap.get?_push_of_some _ q) (Nat.le_refl _) ?_, rfl, q2 (fun w => z (r2.nil_iff.mpr w)) _ _ (I.hok.fresh (Nat.le_refl _)) ⟨_, rfl, rfl⟩⟩
  exact ⟨Heap.get?_push_size _ rfl, by rw [List.length_append]; exact hz, _, r1.append r2, IsTup.new _ _⟩
theorem op_catZK (K : PySem.W.Frag) {X : Cx} (h : X.K = K := by rfl) : OpR X (binaryOp .Add) (rCatZ K) := by
  subst h
  exact op_catZ
end Nv
set_option Elab.async false
set_option linter.all false
set_option maxRecDepth 100000
set_option maxHeartbeats 4000000
/-! tuples known to have no dict of their own: t + u of any, slices, t * n of any n -/
namespace Nv
open PySem PySem.Spec PyProof.Rows L2
abbrev NewZ (H : Hp) (p : Addr) (xs : List V) (H' : Hp) : Prop := ∃ o : Obj, o.dict = none ∧ H' = upd H p (.frz o (.tup xs))
def rCatAZ (K : PySem.W.Frag) : R2 := fun x y H Q => ∃ a b xs ys, x = .ref a ∧ y = .ref b ∧ SqT K H a xs ∧ SqT K H b ys ∧ xs.length + ys.length ≤ sizeLine ∧
  (xs = [] → Q (.ref b) H) ∧ (xs ≠ [] → ys = [] → Q (.ref a) H) ∧ (xs ≠ [] → ys ≠ [] → ∀ p H', H p = none → NewZ H p (xs ++ ys) H' → Q (.ref p) H')
theorem op_catAZ {X : Cx} : OpR X (binaryOp .Add) (rCatAZ X.K) := by
  intro pins s σ H x y v u Q I rx ry h
  obtain ⟨a, b, xs, ys, rfl, rfl, ha, hb, hz, q0, q1, q2⟩ := h
  by_cases hx : xs = []
  · subst hx
    cases rx
    cases ry
    obtain ⟨its, r1, p1, _⟩ := I.tuple ha
    obtain ⟨its2, r2, p2, _⟩ := I.tuple hb
    cases r1
    exact cat_tup0 p1 p2 ⟨.ref b, H, I, rfl, q0 rfl⟩
  · exact op_catZ pins s σ H _ _ v u Q I rx ry ⟨a, b, xs, ys, rfl, rfl, ha, hb, hx, hz, q1 hx, q2 hx⟩
theorem op_catAZK (K : PySem.W.Frag) {X : Cx} (h : X.K = K := by rfl) : OpR X (binaryOp .Add) (rCatAZ K) := by
  subst h
  exact op_catAZ
def rSlAZ (K : PySem.W.Frag) : V → Option Int → Option Int → Hp → VK → Prop := fun x lo hi H Q => ∃ a xs, x = .ref a ∧ SqT K H a xs ∧
  (HT.sIx xs.length 0 lo = 0 ∧ HT.sIx xs.length xs.length hi = xs.length → Q (.ref a) H) ∧ (¬ (HT.sIx xs.length 0 lo = 0 ∧ HT.sIx xs.length xs.length hi = xs.length) → ∀ p H', H p = none → NewZ H p (cutV xs lo hi) H' → Q (.ref p) H')
theorem sl_tupAZ {X : Cx} : SlR X (rSlAZ X.K) := by
  intro pins s σ H x v vl vu lo hi sl Q I rx hs pl pu h
  obtain ⟨a, xs, rfl, hx, q1, q2⟩ := h
  cases rx
  obtain ⟨its, r, ht, hz⟩ := I.tuple hx
  have hlen : its.toArray.size = xs.length := by rw [List.size_toArray]; exact r.length.symm
  refine ⟨"tuple", _, PyProof.Rows.slot_tuple_getitem.lookup, ht.typeIs, ?_⟩
  by_cases hw : HT.sIx xs.length 0 lo = 0 ∧ HT.sIx xs.length xs.length hi = xs.length
  · exact getItem_tuple_whole ht hs pl pu (by rw [hlen]; exact hw) ⟨.ref a, H, I, rfl, q1 hw⟩
  · refine HT.getItem_tuple_cut ht hs pl pu (by rw [hlen]; exact hw) ?_ (by rw [hlen]; exact hz)
    rw [hlen]
    have cz : (cutV xs lo hi).length ≤ sizeLine := Nat.le_trans (cutV_length xs lo hi) hz
    refine ⟨.ref s.heap.objs.size, _, I.laid (t' := s.toks) (o := .frz { cls := .type "tuple", data := .seq ((its.drop (HT.sIx xs.length 0 lo)).take (HT.sIx xs.length xs.length hi - HT.sIx xs.length 0 lo)).toArray } (.tup (cutV xs lo hi))) (fun b ob q => Heap.get?_push_of_some _ q) (Nat.le_refl _) ?_, rfl, q2 hw _ _ (I.hok.fresh (Nat.le_refl _)) ⟨_, rfl, rfl⟩⟩
    exact ⟨Heap.get?_push_size _ rfl, cz, _, (r.drop (HT.sIx xs.length 0 lo)).take (HT.sIx xs.length xs.length hi - HT.sIx xs.length 0 lo), IsTup.new _ _⟩
theorem sl_tupAZK (K : PySem.W.Frag) {X : Cx} (h : X.K = K := by rfl) : SlR X (rSlAZ K) := by
  subst h
  exact sl_tupAZ
section
open Builtin.Tuple
variable {t : Addr} {ws : Array Value} {cap : Nat} {od : Option Addr} {os : Array (Option Value)} {k : Int} {tok : Tok}
/-- t * 1, () * k: t itself -/
theorem mul_self (far : (decide (k < -(2 ^ 63)) || decide (k ≥ 2 ^ 63)) = false) (one : (ws.isEmpty || k == 1) = true) :
    Meets (Builtin.«tuple.__mul__» ⟨[.ref t, .int k tok], []⟩) (fun _ R s => s.heap.get? t = some { cls := .type "tuple", dict := od, data := .seq ws cap, slots := os } ∧ R (.ok (.ret (Value.ref t))) s) :=
  .of_wp fun prog w A R s ⟨there, goal⟩ => by
    have ix := AutoSeq1.idx_int
    cases s with
    | mk hp ge dr tk so =>
    wp_walk using wpAny_loadPart' there
    repeat (first
      | (refine wpAny_ite_false (decide_eq_false (by rw [far]; simp)) ?_; wp_walk using wpAny_loadPart' there)
      | (refine wpAny_ite_true (decide_eq_true one) ?_; wp_walk using wpAny_loadPart' there))
    exact ⟨_, rfl, goal⟩
/-- t * 0: a new empty one -/
theorem mul_nil (far : (decide (k < -(2 ^ 63)) || decide (k ≥ 2 ^ 63)) = false) (one : (ws.isEmpty || k == 1) = false) (nil : (decide (k ≤ 0) || ws.isEmpty) = true) :
    Meets (Builtin.«tuple.__mul__» ⟨[.ref t, .int k tok], []⟩) (fun _ R s => s.heap.get? t = some { cls := .type "tuple", dict := od, data := .seq ws cap, slots := os } ∧
      R (.ok (.ret (Value.ref s.heap.objs.size))) { s with heap := s.heap.push { cls := Value.type "tuple", data := Data.seq #[] }, toks := s.toks }) :=
  .of_wp fun prog w A R s ⟨there, goal⟩ => by
    have ix := AutoSeq1.idx_int
    cases s with
    | mk hp ge dr tk so =>
    wp_walk using wpAny_loadPart' there
    repeat (first
      | (refine wpAny_ite_false (decide_eq_false (by rw [far]; simp)) ?_; wp_walk using wpAny_loadPart' there)
      | (refine wpAny_ite_false (decide_eq_false (by rw [one]; simp)) ?_; wp_walk using wpAny_loadPart' there)
      | (refine wpAny_ite_true (decide_eq_true nil) ?_; wp_walk using wpAny_loadPart' there))
    exact ⟨_, rfl, goal⟩
end
/-- t * k, k any number, up to a hundred thousand members -/
def rRepAZ (K : PySem.W.Frag) : R2 := fun x y H Q => ∃ (a : Addr) (k : Int) (xs : List V), x = .ref a ∧ y = .int k ∧ SqT K H a xs ∧ -(2 ^ 62) ≤ k ∧ k < 2 ^ 62 ∧ k.toNat * xs.length ≤ 100000 ∧ ((xs = [] ∨ k = 1) → Q (.ref a) H) ∧
  (xs ≠ [] → k ≠ 1 → ∀ p H', H p = none → NewZ H p (List.replicate k.toNat xs).flatten H' → Q (.ref p) H')
theorem op_repAZ {X : Cx} : OpR X (binaryOp .Mult) (rRepAZ X.K) := by
  intro pins s σ H x y v u Q I rx ry h
  obtain ⟨a, k, xs, rfl, rfl, sq, lo, hi, few, q1, q2⟩ := h
  cases rx
  obtain ⟨tok, rfl⟩ := ry
  obtain ⟨vals, rel, ⟨⟨cl, dic, dat, slo⟩, here, ecl, cap, edat⟩, _⟩ := I.tuple sq
  simp only at ecl edat
  subst ecl edat
  have el : vals.length = xs.length := rel.length.symm
  have b0 : (decide ((k : Int) < -(2 ^ 63)) || decide ((k : Int) ≥ 2 ^ 63)) = false := by
    rw [decide_eq_false (by omega), decide_eq_false (by omega)]
    rfl
  by_cases same : xs = [] ∨ k = 1
  · have c1 : (vals.toArray.isEmpty || k == 1) = true := by
      rcases same with e | e
      · have : vals = [] := List.eq_nil_of_length_eq_zero (by rw [el, e]; rfl)
        rw [this]
        rfl
      · rw [e]
        simp
    refine wpAny_binaryOp_repeat_ref (T := "tuple") (U := "int") (by decide) ⟨_, here, rfl⟩ (fun s' => typeIs_int s' k tok) noFill_tuple_mul F.fills_int_mul F.slot_int_rmul repeat_tuple F.slot_int_index.lookup
      (call_meets F.slot_int_rmul (typeIs_int s k tok) F.entry_int_rmul (F.args_int_rmul_2 _ _) (int_rmul_tuple k tok a vals.toArray cap dic slo)
        ⟨here, rfl, ⟨_, here, rfl⟩, call_meets F.slot_tuple_mul ⟨_, here, rfl⟩ F.entry_tuple_mul (F.args_tuple_mul_2 _ _) (mul_self b0 c1) ⟨here, ?_⟩⟩)
    exact ⟨.ref a, H, I, rfl, q1 same⟩
  · have hx : xs ≠ [] := fun z => same (.inl z)
    have hk : k ≠ 1 := fun z => same (.inr z)
    have pos : 0 < vals.length := by
      rw [el]
      exact List.length_pos_iff.mpr hx
    have notE : vals.toArray.isEmpty = false := by
      cases vals with
      | nil => cases pos
      | cons _ _ => rfl
    have c1 : (vals.toArray.isEmpty || k == 1) = false := by
      rw [notE, Bool.false_or]
      exact beq_eq_false_iff_ne.mpr hk
    by_cases k0 : k ≤ 0
    · have c2 : (decide (k ≤ 0) || vals.toArray.isEmpty) = true := by rw [decide_eq_true k0]; rfl
      refine wpAny_binaryOp_repeat_ref (T := "tuple") (U := "int") (by decide) ⟨_, here, rfl⟩ (fun s' => typeIs_int s' k tok) noFill_tuple_mul F.fills_int_mul F.slot_int_rmul repeat_tuple F.slot_int_index.lookup
        (call_meets F.slot_int_rmul (typeIs_int s k tok) F.entry_int_rmul (F.args_int_rmul_2 _ _) (int_rmul_tuple k tok a vals.toArray cap dic slo)
          ⟨here, rfl, ⟨_, here, rfl⟩, call_meets F.slot_tuple_mul ⟨_, here, rfl⟩ F.entry_tuple_mul (F.args_tuple_mul_2 _ _) (mul_nil b0 c1 c2) ⟨here, ?_⟩⟩)
      have e0 : (List.replicate k.toNat xs).flatten = [] := by rw [Int.toNat_of_nonpos k0]; rfl
      refine ⟨.ref s.heap.objs.size, _, I.laid (t' := s.toks) (o := .frz { cls := .type "tuple", data := .seq #[] } (.tup [])) (fun _ _ e => Heap.get?_push_of_some _ e) (Nat.le_refl _) ⟨Heap.get?_push_size _ rfl, by show 0 ≤ sizeLine; decide, [], .nil, IsTup.new _ _⟩, rfl, q2 hx hk _ _ (I.hok.fresh (Nat.le_refl _)) ⟨_, rfl, by rw [e0]⟩⟩
    · have c2 : (decide (k ≤ 0) || vals.toArray.isEmpty) = false := by
        rw [notE, Bool.or_false]
        exact decide_eq_false k0
      have few' : k.toNat * vals.length ≤ 100000 := by rw [el]; exact few
      have prod : ((vals.toArray.size : Nat) : Int) * k ≤ 100000 := by
        rw [List.size_toArray, Int.mul_comm]
        have z : ((k.toNat * vals.length : Nat) : Int) ≤ ((100000 : Nat) : Int) := Int.ofNat_le.mpr few'
        rw [Int.natCast_mul, Int.toNat_of_nonneg (by omega)] at z
        exact z
      have fits : (List.replicate k.toNat vals).flatten.length ≤ sizeLine := by
        rw [PyProof.Rows.lm_len_rep_flat]
        exact Nat.le_trans few' (by decide)
      have b4 : Builtin.Tuple.tupleTooMany (((vals.toArray.size : Nat) : Int) * k) = false := by
        unfold Builtin.Tuple.tupleTooMany
        rw [sizeLine_eq]
        exact decide_eq_false (by omega)
      refine wpAny_binaryOp_repeat_ref (T := "tuple") (U := "int") (by decide) ⟨_, here, rfl⟩ (fun s' => typeIs_int s' k tok) noFill_tuple_mul F.fills_int_mul F.slot_int_rmul repeat_tuple F.slot_int_index.lookup
        (call_meets F.slot_int_rmul (typeIs_int s k tok) F.entry_int_rmul (F.args_int_rmul_2 _ _) (int_rmul_tuple k tok a vals.toArray cap dic slo)
          ⟨here, rfl, ⟨_, here, rfl⟩, call_meets F.slot_tuple_mul ⟨_, here, rfl⟩ F.entry_tuple_mul (F.args_tuple_mul_2 _ _) (tuple_mulW a vals.toArray cap dic slo k tok b0 c1 c2 (by omega) b4 (by rw [size_rep, List.size_toArray]; exact fits)) ⟨here, ?_⟩⟩)
      rw [size_rep]
      refine ⟨.ref s.heap.objs.size, _, I.laid (t' := s.toks) (o := .frz { cls := .type "tuple", data := .seq (List.replicate k.toNat vals).flatten.toArray } (.tup (List.replicate k.toNat xs).flatten)) (fun _ _ e => Heap.get?_push_of_some _ e) (Nat.le_refl _) ⟨Heap.get?_push_size _ rfl, by rw [PyProof.Rows.lm_len_rep_flat]; exact Nat.le_trans few (by decide), _, rel.rep k.toNat, IsTup.new _ _⟩, rfl, q2 hx hk _ _ (I.hok.fresh (Nat.le_refl _)) ⟨_, rfl, rfl⟩⟩
theorem op_repAZK (K : PySem.W.Frag) {X : Cx} (h : X.K = K := by rfl) : OpR X (binaryOp .Mult) (rRepAZ K) := by
  subst h
  exact op_repAZ
end Nv
set_option Elab.async false
set_option linter.all false
set_option maxRecDepth 100000
namespace Nv
open PySem PySem.Spec PyProof.Rows L2 RZ
/-! ### zip of two tuples in comprehensions; data in lists of data -/
theorem units65 {A : Around} {k : Nat} (hr : Room k A) : A.units + 65 < cLine := by have := hr.un; omega
section
variable {X : Cx}
theorem op_inDK (K : PySem.W.Frag) (hu : X.A.units + 65 < cLine) (h : X.K = K := by rfl) : OpR X (compareOp .In) (rInD K) := by subst h; exact op_inD hu
theorem op_notInDK (K : PySem.W.Frag) (hu : X.A.units + 65 < cLine) (h : X.K = K := by rfl) : OpR X (compareOp .NotIn) (rNotInD K) := by subst h; exact op_notInD hu
theorem pi_zipAK (K : PySem.W.Frag) {e e2 : Expr} {ta : TA} {p pos tpos : Pos} {elts : List Expr} {kk : Nat} (hg : Gl X "zip") (hm : X.mg "zip" = none) (ha : PA X [e, e2] ta)
    (hs : starEach [e, e2] X.env = (false, eval e X.env) :: starEach [e2] X.env := by rfl) (hpl : (backTo pos (starEach [e2] X.env)).any (·.1) = false := by rfl) (h : X.K = K := by rfl) :
    PI X (.Tuple elts kk tpos) (.Call (.Name "zip" p) [e, e2] [] pos) (iZipA K ta) := by subst h; exact pi_zipA hg hm ha hs hpl
end
theorem walk_zipT {K : PySem.W.Frag} {a b : Addr} {xs ys : List V} {n : Nat} (hn : n = min xs.length ys.length) : Walk (ItzT K a b) n (fun H => SqT K H a xs ∧ SqT K H b ys) (YPair (fun i => xs[i]?) (fun i => ys[i]?)) := by
  subst hn
  refine ⟨fun i _ hi q => ?_, fun _ q => ⟨xs, ys, q.1, q.2, by omega⟩, fun i H v H' _ q y => ?_⟩
  · have h1 : i < xs.length := by omega
    have h2 : i < ys.length := by omega
    exact ⟨xs, ys, xs[i], ys[i], q.1, q.2, by simp [h1], by simp [h2]⟩
  · obtain ⟨T, x, z, h1, h2, h3, h4, h5⟩ := y
    exact ⟨T, x, z, h1, h2, h3, h4 xs q.1, h5 ys q.2⟩
end Nv
set_option Elab.async false
set_option linter.all false
set_option maxRecDepth 100000
/-! the value layer: readings that speak of data and slots alone, not of the heap -/
namespace Nv
open PySem PySem.Spec PyProof.Rows L2
abbrev D := PyData
/-! ### pure data (no lists within), odd data (lists that nobody writes) -/
mutual
inductive Pu (H : Hp) : V → D → Prop
  | non : Pu H .non .none
  | bl (b : Bool) : Pu H (.bl b) (.bool b)
  | int (i : Int) : Pu H (.int i) (.int i)
  | str (x : Str) : Pu H (.str x) (.str x)
  | tup {a : Addr} {vs : List V} {ds : List D} : TupZ H a vs → PuA H vs ds → Pu H (.ref a) (.tuple ds)
inductive PuA (H : Hp) : List V → List D → Prop
  | nil : PuA H [] []
  | cons {v : V} {vs : List V} {d : D} {ds : List D} : Pu H v d → PuA H vs ds → PuA H (v :: vs) (d :: ds)
end
/-- a list that may be read, at none of these addresses -/
def LsR (S : List Addr) (H : Hp) (a : Addr) (vs : List V) : Prop := H a = some (.lst vs) ∧ a ∉ S
mutual
inductive Da (K : PySem.W.Frag) (S : List Addr) (H : Hp) : V → D → Prop
  | non : Da K S H .non .none
  | bl (b : Bool) : Da K S H (.bl b) (.bool b)
  | int (i : Int) : Da K S H (.int i) (.int i)
  | str (x : Str) : Da K S H (.str x) (.str x)
  | lst {a : Addr} {vs : List V} {ds : List D} : LsR S H a vs → DaA K S H vs ds → Da K S H (.ref a) (.list ds)
  | tup {a : Addr} {vs : List V} {ds : List D} : SqT K H a vs → DaA K S H vs ds → Da K S H (.ref a) (.tuple ds)
inductive DaA (K : PySem.W.Frag) (S : List Addr) (H : Hp) : List V → List D → Prop
  | nil : DaA K S H [] []
  | cons {v : V} {vs : List V} {d : D} {ds : List D} : Da K S H v d → DaA K S H vs ds → DaA K S H (v :: vs) (d :: ds)
end
theorem some_ne {H : Hp} {a : Addr} {o : HO} (h : H a = some o) : H a ≠ none := fun z => by rw [z] at h; cases h
section
variable {K : PySem.W.Frag} {S S' L : List Addr} {H H' : Hp}
mutual
theorem Pu.ext (e : Ext L H H') (l : Lsts L H) : ∀ {v : V} {d : D}, Pu H v d → Pu H' v d
  | _, _, .non => .non
  | _, _, .bl b => .bl b
  | _, _, .int i => .int i
  | _, _, .str x => .str x
  | _, _, .tup h t => .tup (e.tz l h) (PuA.ext e l t)
theorem PuA.ext (e : Ext L H H') (l : Lsts L H) : ∀ {vs : List V} {ds : List D}, PuA H vs ds → PuA H' vs ds
  | _, _, .nil => .nil
  | _, _, .cons h t => .cons (Pu.ext e l h) (PuA.ext e l t)
end
mutual
theorem Da.ext (e : Ext L H H') (l : Lsts L H) (s : ∀ a ∈ L, a ∈ S) : ∀ {v : V} {d : D}, Da K S H v d → Da K S H' v d
  | _, _, .non => .non
  | _, _, .bl b => .bl b
  | _, _, .int i => .int i
  | _, _, .str x => .str x
  | _, _, .lst ⟨h, n⟩ t => .lst ⟨e _ _ (fun z => n (s _ z)) h, n⟩ (DaA.ext e l s t)
  | _, _, .tup h t => .tup (e.tup l h) (DaA.ext e l s t)
theorem DaA.ext (e : Ext L H H') (l : Lsts L H) (s : ∀ a ∈ L, a ∈ S) : ∀ {vs : List V} {ds : List D}, DaA K S H vs ds → DaA K S H' vs ds
  | _, _, .nil => .nil
  | _, _, .cons h t => .cons (Da.ext e l s h) (DaA.ext e l s t)
end
/-! other addresses to be kept off: those of S that are taken, and free ones -/
mutual
theorem Da.off (f : ∀ a ∈ S', a ∈ S ∨ H a = none) : ∀ {v : V} {d : D}, Da K S H v d → Da K S' H v d
  | _, _, .non => .non
  | _, _, .bl b => .bl b
  | _, _, .int i => .int i
  | _, _, .str x => .str x
  | _, _, .lst ⟨h, n⟩ t => .lst ⟨h, fun z => (f _ z).elim n (some_ne h)⟩ (DaA.off f t)
  | _, _, .tup h t => .tup h (DaA.off f t)
theorem DaA.off (f : ∀ a ∈ S', a ∈ S ∨ H a = none) : ∀ {vs : List V} {ds : List D}, DaA K S H vs ds → DaA K S' H vs ds
  | _, _, .nil => .nil
  | _, _, .cons h t => .cons (Da.off f h) (DaA.off f t)
end
mutual
theorem Pu.da : ∀ {v : V} {d : D}, Pu H v d → Da K S H v d
  | _, _, .non => .non
  | _, _, .bl b => .bl b
  | _, _, .int i => .int i
  | _, _, .str x => .str x
  | _, _, .tup h t => .tup h.sq (PuA.da t)
theorem PuA.da : ∀ {vs : List V} {ds : List D}, PuA H vs ds → DaA K S H vs ds
  | _, _, .nil => .nil
  | _, _, .cons h t => .cons (Pu.da h) (PuA.da t)
end
mutual
theorem Da.dp : ∀ {v : V} {d : D}, Da K S H v d → Dp K H v d
  | _, _, .non => .non
  | _, _, .bl b => .bl b
  | _, _, .int i => .int i
  | _, _, .str x => .str x
  | _, _, .lst h t => .lst (.of h.1) (DaA.dp t)
  | _, _, .tup h t => .tup h (DaA.dp t)
theorem DaA.dp : ∀ {vs : List V} {ds : List D}, DaA K S H vs ds → DpAll K H vs ds
  | _, _, .nil => .nil
  | _, _, .cons h t => .cons (Da.dp h) (DaA.dp t)
end
theorem Pu.dp {v : V} {d : D} (h : Pu H v d) : Dp K H v d := (h.da (S := [])).dp
theorem PuA.len : ∀ {vs : List V} {ds : List D}, PuA H vs ds → vs.length = ds.length
  | _, _, .nil => rfl
  | _, _, .cons _ t => by rw [List.length_cons, List.length_cons, PuA.len t]
theorem DaA.len : ∀ {vs : List V} {ds : List D}, DaA K S H vs ds → vs.length = ds.length
  | _, _, .nil => rfl
  | _, _, .cons _ t => by rw [List.length_cons, List.length_cons, DaA.len t]
theorem PuA.get : ∀ {vs : List V} {ds : List D} {i : Nat} {v : V}, PuA H vs ds → vs[i]? = some v → ∃ d, ds[i]? = some d ∧ Pu H v d
  | _, _, _, _, .nil, e => by simp at e
  | _, _, 0, _, .cons r _, e => by cases e; exact ⟨_, rfl, r⟩
  | _, _, i + 1, _, .cons _ t, e => by
    obtain ⟨d, h1, h2⟩ := PuA.get (i := i) t (by simpa using e)
    exact ⟨d, by simpa using h1, h2⟩
theorem PuA.get' : ∀ {vs : List V} {ds : List D} {i : Nat} {d : D}, PuA H vs ds → ds[i]? = some d → ∃ v, vs[i]? = some v ∧ Pu H v d
  | _, _, _, _, .nil, e => by simp at e
  | _, _, 0, _, .cons r _, e => by cases e; exact ⟨_, rfl, r⟩
  | _, _, i + 1, _, .cons _ t, e => by
    obtain ⟨d, h1, h2⟩ := PuA.get' (i := i) t (by simpa using e)
    exact ⟨d, by simpa using h1, h2⟩
theorem DaA.get' : ∀ {vs : List V} {ds : List D} {i : Nat} {d : D}, DaA K S H vs ds → ds[i]? = some d → ∃ v, vs[i]? = some v ∧ Da K S H v d
  | _, _, _, _, .nil, e => by simp at e
  | _, _, 0, _, .cons r _, e => by cases e; exact ⟨_, rfl, r⟩
  | _, _, i + 1, _, .cons _ t, e => by
    obtain ⟨d, h1, h2⟩ := DaA.get' (i := i) t (by simpa using e)
    exact ⟨d, by simpa using h1, h2⟩
theorem PuA.append : ∀ {vs ws : List V} {ds es : List D}, PuA H vs ds → PuA H ws es → PuA H (vs ++ ws) (ds ++ es)
  | _, _, _, _, .nil, h => h
  | _, _, _, _, .cons r t, h => .cons r (PuA.append t h)
theorem DaA.append : ∀ {vs ws : List V} {ds es : List D}, DaA K S H vs ds → DaA K S H ws es → DaA K S H (vs ++ ws) (ds ++ es)
  | _, _, _, _, .nil, h => h
  | _, _, _, _, .cons r t, h => .cons r (DaA.append t h)
theorem PuA.take : ∀ {vs : List V} {ds : List D} (n : Nat), PuA H vs ds → PuA H (vs.take n) (ds.take n)
  | _, _, 0, _ => .nil
  | _, _, _ + 1, .nil => .nil
  | _, _, n + 1, .cons r t => .cons r (PuA.take n t)
theorem PuA.drop : ∀ {vs : List V} {ds : List D} (n : Nat), PuA H vs ds → PuA H (vs.drop n) (ds.drop n)
  | _, _, 0, r => r
  | _, _, _ + 1, .nil => .nil
  | _, _, n + 1, .cons _ t => PuA.drop n t
theorem PuA.set {v : V} {d : D} (r : Pu H v d) : ∀ {vs : List V} {ds : List D} (i : Nat), PuA H vs ds → PuA H (vs.set i v) (ds.set i d)
  | _, _, _, .nil => .nil
  | _, _, 0, .cons _ t => .cons r t
  | _, _, i + 1, .cons q t => .cons q (PuA.set r i t)
theorem PuA.erase : ∀ {vs : List V} {ds : List D} (i : Nat), PuA H vs ds → PuA H (vs.eraseIdx i) (ds.eraseIdx i)
  | _, _, _, .nil => .nil
  | _, _, 0, .cons _ t => t
  | _, _, i + 1, .cons q t => .cons q (PuA.erase i t)
theorem PuA.rep {vs : List V} {ds : List D} (h : PuA H vs ds) : ∀ k : Nat, PuA H (List.replicate k vs).flatten (List.replicate k ds).flatten
  | 0 => .nil
  | k + 1 => by
    rw [List.replicate_succ, List.replicate_succ, List.flatten_cons, List.flatten_cons]
    exact PuA.append h (PuA.rep h k)
theorem PuA.nil_iff {vs : List V} {ds : List D} (h : PuA H vs ds) : vs = [] ↔ ds = [] := by
  cases h <;> simp
/-- numbers -/
theorem PuA.ints : ∀ {vs : List V} {ns : List Int}, PuA H vs (ns.map PyData.int) → vs = ns.map V.int
  | _, [], .nil => rfl
  | _, n :: r, .cons h t => by
    cases h
    rw [PuA.ints t]
    rfl
end
/-! ### what is owned: lists, lists of lists, dicts -/
inductive M where
  | L (ds : List D)
  | LL (ms : List M)
  | DK (kvs : List (Key × D))
  | FK (kvs : List (Key × D))
section
variable (H : Hp)
mutual
def own : M → List Addr → V → Prop
  | .L ds, A, v => ∃ a vs, v = .ref a ∧ A = [a] ∧ H a = some (.lst vs) ∧ PuA H vs ds
  | .LL ms, A, v => ∃ a vs B, v = .ref a ∧ A = a :: B ∧ a ∉ B ∧ H a = some (.lst vs) ∧ ownA ms B vs
  | .DK kvs, A, v => ∃ a ks, v = .ref a ∧ A = [a] ∧ H a = some (.dK ks) ∧ ks.map (·.1) = kvs.map (·.1) ∧ PuA H (ks.map (·.2)) (kvs.map (·.2))
  | .FK _, _, _ => False
def ownA : List M → List Addr → List V → Prop
  | [], A, vs => A = [] ∧ vs = []
  | m :: ms, A, vs => ∃ B C v ws, A = B ++ C ∧ vs = v :: ws ∧ (∀ a ∈ B, a ∉ C) ∧ own m B v ∧ ownA ms C ws
end
/-! what may be read: at none of these addresses -/
mutual
def rm (S : List Addr) : M → V → Prop
  | .L ds, v => ∃ a vs, v = .ref a ∧ LsR S H a vs ∧ PuA H vs ds
  | .LL ms, v => ∃ a vs, v = .ref a ∧ LsR S H a vs ∧ rmA S ms vs
  | .DK kvs, v => ∃ a ks, v = .ref a ∧ H a = some (.dK ks) ∧ a ∉ S ∧ ks.map (·.1) = kvs.map (·.1) ∧ PuA H (ks.map (·.2)) (kvs.map (·.2))
  | .FK kvs, v => ∃ a o ks, v = .ref a ∧ H a = some (.frz o (.dK ks)) ∧ a ∉ S ∧ ks.map (·.1) = kvs.map (·.1) ∧ PuA H (ks.map (·.2)) (kvs.map (·.2))
def rmA (S : List Addr) : List M → List V → Prop
  | [], vs => vs = []
  | m :: ms, vs => ∃ v ws, vs = v :: ws ∧ rm S m v ∧ rmA S ms ws
end
end
theorem lst_lsts {H : Hp} {a : Addr} {vs : List V} (h : H a = some (.lst vs)) : ∃ o, H a = some o ∧ (∀ xs, o ≠ .tup xs) ∧ ∀ ob u, o ≠ .frz ob u := ⟨_, h, fun _ z => (nomatch z), fun _ _ z => (nomatch z)⟩
theorem dk_lsts {H : Hp} {a : Addr} {vs : List (Key × V)} (h : H a = some (.dK vs)) : ∃ o, H a = some o ∧ (∀ xs, o ≠ .tup xs) ∧ ∀ ob u, o ≠ .frz ob u := ⟨_, h, fun _ z => (nomatch z), fun _ _ z => (nomatch z)⟩
section
variable {S S' X : List Addr} {H H' : Hp}
mutual
theorem own_lsts : ∀ {m : M} {A : List Addr} {v : V}, own H m A v → Lsts A H
  | .L _, _, _, ⟨a, _, _, e, h, _⟩ => by subst e; exact one_lst h
  | .LL _, _, _, ⟨a, _, B, _, e, _, h, t⟩ => by
    subst e
    intro x hx
    rcases List.mem_cons.mp hx with rfl | hx
    · exact lst_lsts h
    · exact ownA_lsts t x hx
  | .DK _, _, _, ⟨a, _, _, e, h, _⟩ => by subst e; exact one_dk h
  | .FK _, _, _, h => h.elim
theorem ownA_lsts : ∀ {ms : List M} {A : List Addr} {vs : List V}, ownA H ms A vs → Lsts A H
  | [], _, _, ⟨e, _⟩ => by subst e; exact .nil
  | _ :: _, _, _, ⟨B, C, v, ws, e, _, _, h, t⟩ => by
    subst e
    intro x hx
    rcases List.mem_append.mp hx with hx | hx
    · exact own_lsts h x hx
    · exact ownA_lsts t x hx
end
theorem Lsts.some {A : List Addr} (l : Lsts A H) {a : Addr} (h : a ∈ A) : H a ≠ none := fun z => by
  obtain ⟨o, e, _⟩ := l a h
  rw [z] at e
  cases e
theorem Lsts.app {A B : List Addr} (h : Lsts A H) (k : Lsts B H) : Lsts (A ++ B) H := fun a z => (List.mem_append.mp z).elim (h a) (k a)
theorem Lsts.sub {A B : List Addr} (h : Lsts A H) (k : ∀ a ∈ B, a ∈ A) : Lsts B H := fun a z => h a (k a z)
mutual
theorem own.ext (e : Ext X H H') (l : Lsts X H) : ∀ {m : M} {A : List Addr} {v : V}, own H m A v → (∀ a ∈ A, a ∉ X) → own H' m A v
  | .L _, _, _, ⟨a, vs, e1, e2, h, p⟩, n => ⟨a, vs, e1, e2, e _ _ (n a (by rw [e2]; simp)) h, p.ext e l⟩
  | .LL _, _, _, ⟨a, vs, B, e1, e2, e3, h, t⟩, n => ⟨a, vs, B, e1, e2, e3, e _ _ (n a (by rw [e2]; simp)) h, ownA.ext e l t fun x hx => n x (by rw [e2]; exact List.mem_cons_of_mem _ hx)⟩
  | .DK _, _, _, ⟨a, vs, e1, e2, h, e3, p⟩, n => ⟨a, vs, e1, e2, e _ _ (n a (by rw [e2]; simp)) h, e3, p.ext e l⟩
  | .FK _, _, _, h, _ => h.elim
theorem ownA.ext (e : Ext X H H') (l : Lsts X H) : ∀ {ms : List M} {A : List Addr} {vs : List V}, ownA H ms A vs → (∀ a ∈ A, a ∉ X) → ownA H' ms A vs
  | [], _, _, h, _ => h
  | _ :: _, _, _, ⟨B, C, v, ws, e1, e2, e3, h, t⟩, n => ⟨B, C, v, ws, e1, e2, e3, own.ext e l h fun x hx => n x (by rw [e1]; exact List.mem_append_left _ hx), ownA.ext e l t fun x hx => n x (by rw [e1]; exact List.mem_append_right _ hx)⟩
end
mutual
theorem rm.ext (e : Ext X H H') (l : Lsts X H) (s : ∀ a ∈ X, a ∈ S) : ∀ {m : M} {v : V}, rm H S m v → rm H' S m v
  | .L _, _, ⟨a, vs, e1, ⟨h, n⟩, p⟩ => ⟨a, vs, e1, ⟨e _ _ (fun z => n (s _ z)) h, n⟩, p.ext e l⟩
  | .LL _, _, ⟨a, vs, e1, ⟨h, n⟩, p⟩ => ⟨a, vs, e1, ⟨e _ _ (fun z => n (s _ z)) h, n⟩, rmA.ext e l s p⟩
  | .DK _, _, ⟨a, vs, e1, h, n, e3, p⟩ => ⟨a, vs, e1, e _ _ (fun z => n (s _ z)) h, n, e3, p.ext e l⟩
  | .FK _, _, ⟨a, o, vs, e1, h, n, e3, p⟩ => ⟨a, o, vs, e1, e _ _ (fun z => n (s _ z)) h, n, e3, p.ext e l⟩
theorem rmA.ext (e : Ext X H H') (l : Lsts X H) (s : ∀ a ∈ X, a ∈ S) : ∀ {ms : List M} {vs : List V}, rmA H S ms vs → rmA H' S ms vs
  | [], _, h => h
  | _ :: _, _, ⟨v, ws, e1, h, t⟩ => ⟨v, ws, e1, rm.ext e l s h, rmA.ext e l s t⟩
end
mutual
theorem rm.off (f : ∀ a ∈ S', a ∈ S ∨ H a = none) : ∀ {m : M} {v : V}, rm H S m v → rm H S' m v
  | .L _, _, ⟨a, vs, e1, ⟨h, n⟩, p⟩ => ⟨a, vs, e1, ⟨h, fun z => (f _ z).elim n (some_ne h)⟩, p⟩
  | .LL _, _, ⟨a, vs, e1, ⟨h, n⟩, p⟩ => ⟨a, vs, e1, ⟨h, fun z => (f _ z).elim n (some_ne h)⟩, rmA.off f p⟩
  | .DK _, _, ⟨a, vs, e1, h, n, e3, p⟩ => ⟨a, vs, e1, h, fun z => (f _ z).elim n (some_ne h), e3, p⟩
  | .FK _, _, ⟨a, o, vs, e1, h, n, e3, p⟩ => ⟨a, o, vs, e1, h, fun z => (f _ z).elim n (some_ne h), e3, p⟩
theorem rmA.off (f : ∀ a ∈ S', a ∈ S ∨ H a = none) : ∀ {ms : List M} {vs : List V}, rmA H S ms vs → rmA H S' ms vs
  | [], _, h => h
  | _ :: _, _, ⟨v, ws, e1, h, t⟩ => ⟨v, ws, e1, rm.off f h, rmA.off f t⟩
end
mutual
theorem own.rm : ∀ {m : M} {A : List Addr} {v : V}, own H m A v → (∀ a ∈ A, a ∉ S) → rm H S m v
  | .L _, _, _, ⟨a, vs, e1, e2, h, p⟩, n => ⟨a, vs, e1, ⟨h, n a (by rw [e2]; simp)⟩, p⟩
  | .LL _, _, _, ⟨a, vs, B, e1, e2, e3, h, t⟩, n => ⟨a, vs, e1, ⟨h, n a (by rw [e2]; simp)⟩, ownA.rm t fun x hx => n x (by rw [e2]; exact List.mem_cons_of_mem _ hx)⟩
  | .DK _, _, _, ⟨a, vs, e1, e2, h, e3, p⟩, n => ⟨a, vs, e1, h, n a (by rw [e2]; simp), e3, p⟩
  | .FK _, _, _, h, _ => h.elim
theorem ownA.rm : ∀ {ms : List M} {A : List Addr} {vs : List V}, ownA H ms A vs → (∀ a ∈ A, a ∉ S) → rmA H S ms vs
  | [], _, _, h, _ => h.2
  | _ :: _, _, _, ⟨B, C, v, ws, e1, e2, e3, h, t⟩, n => ⟨v, ws, e2, own.rm h fun x hx => n x (by rw [e1]; exact List.mem_append_left _ hx), ownA.rm t fun x hx => n x (by rw [e1]; exact List.mem_append_right _ hx)⟩
end
end
/-! ### the pool of draws -/
def PoolAt (H : Hp) (p l : Addr) : Prop := p ≠ l ∧ ∃ (x y : Int) (ns : List Int), H p = some (.lst [.int x, .int y, .ref l]) ∧ H l = some (.lst (ns.map V.int)) ∧ 0 ≤ x ∧ 0 ≤ y ∧ y < 4294967296 ∧ ns.length ≤ 63
theorem PoolAt.lsts {H : Hp} {p l : Addr} (h : PoolAt H p l) : Lsts [p, l] H := by
  obtain ⟨_, x, y, ns, h1, h2, _⟩ := h
  exact two_lsts h1 h2
theorem PoolAt.ext {H H' : Hp} {p l : Addr} {L : List Addr} (h : PoolAt H p l) (e : Ext L H H') (h1 : p ∉ L) (h2 : l ∉ L) : PoolAt H' p l := by
  obtain ⟨n, x, y, ns, a, b, r⟩ := h
  exact ⟨n, x, y, ns, e _ _ h1 a, e _ _ h2 b, r⟩
theorem PoolAt.ext0 {H H' : Hp} {p l : Addr} (h : PoolAt H p l) (e : Ext [] H H') : PoolAt H' p l := h.ext e (by simp) (by simp)
/-! ### slots -/
inductive Sl where
  | un | im (d : D) | od (d : D) | rd (m : M) | mu (m : M) | pl | pt (TT : List (Addr × Str))
abbrev Env' := List Sl
/-- what an expression gives: pure data, odd data, what is borrowed, what is kept as it is, what is new -/
inductive Vl where
  | p (d : D) | o (d : D) | b (m : M) | k (m : M) | f (m : M) | pl
/-- what stays as it is while a loop walks it: told by the addresses that it keeps off, and the heap -/
structure Gh where
  pr : List Addr → Hp → Prop
  ext : ∀ {T X : List Addr} {H H' : Hp}, pr T H → Ext X H H' → Lsts X H → (∀ a ∈ X, a ∈ T) → pr T H'
  off : ∀ {T T' : List Addr} {H : Hp}, pr T H → (∀ a ∈ T', a ∈ T ∨ H a = none) → pr T' H
/-- what stays through a call: the pool's addresses, those that odd data keep off besides, the heap at the start, what loops walk -/
structure Pd where
  a : List Addr
  tt : List (Addr × Str)
def Pd.ad (P : Pd) : List Addr := P.a ++ P.tt.map (·.1)
structure Bs where
  PP : Pd
  S0 : List Addr
  H0 : Hp
  Z : List Gh
def Bs.P (B : Bs) : List Addr := B.PP.ad
abbrev GR (B : Bs) (A : List Addr) (H : Hp) (z : Gh) : Prop := z.pr (A ++ B.P) H
/-- the pool, and tables of code objects behind it -/
def PoolOk (P : Pd) (H : Hp) : Prop := P = ⟨[], []⟩ ∨ ∃ (p l : Addr) (TT : List (Addr × Str)), P = ⟨[p, l], TT⟩ ∧ PoolAt H p l ∧ LamX.Tabs TT H
def NoX (X : List Addr) (H : Hp) : Prop := ∀ a ∈ X, ∀ φ, H a ≠ some (.ext φ)
theorem noX_nil {H : Hp} : NoX [] H := fun _ z => nomatch z
theorem noX_l {H : Hp} {a : Addr} {xs : List V} (h : H a = some (.lst xs)) : NoX [a] H := fun b z φ e => by
  rw [List.mem_singleton.mp z, h] at e
  cases e
theorem noX_d {H : Hp} {a : Addr} {xs : List (Key × V)} (h : H a = some (.dK xs)) : NoX [a] H := fun b z φ e => by
  rw [List.mem_singleton.mp z, h] at e
  cases e
theorem tabs_ext {TT : List (Addr × Str)} {X : List Addr} {H H' : Hp} (t : LamX.Tabs TT H) (e : Ext X H H') (n : ∀ a ∈ TT.map (·.1), a ∉ X) (m : NoX X H) : LamX.Tabs TT H' := fun q hq => by
  obtain ⟨ps, h1, h2, h3⟩ := t q hq
  refine ⟨ps, e _ _ (n _ (List.mem_map.mpr ⟨q, hq, rfl⟩)) h1, h2, fun pos cv hc => ?_⟩
  obtain ⟨c, e1, e2⟩ := h3 pos cv hc
  exact ⟨c, e1, e _ _ (fun z => m c z _ e2) e2⟩
theorem tabs_lsts {TT : List (Addr × Str)} {H : Hp} (t : LamX.Tabs TT H) : Lsts (TT.map (·.1)) H := fun a ha => by
  obtain ⟨q, hq, rfl⟩ := List.mem_map.mp ha
  obtain ⟨ps, h1, _⟩ := t q hq
  exact ⟨_, h1, fun _ z => (nomatch z), fun _ _ z => (nomatch z)⟩
theorem PoolOk.lsts {P : Pd} {H : Hp} (h : PoolOk P H) : Lsts P.ad H := by
  rcases h with rfl | ⟨p, l, TT, rfl, h, t⟩
  · exact .nil
  · exact fun a z => by
      rcases List.mem_cons.mp z with rfl | z
      · exact h.lsts _ (by simp)
      · rcases List.mem_cons.mp z with rfl | z
        · exact h.lsts _ (by simp)
        · exact tabs_lsts t a z
theorem PoolOk.ext {P : Pd} {X : List Addr} {H H' : Hp} (h : PoolOk P H) (e : Ext X H H') (n : ∀ a ∈ P.ad, a ∉ X) (m : NoX X H := by exact noX_nil) : PoolOk P H' := by
  rcases h with rfl | ⟨p, l, TT, rfl, h, t⟩
  · exact .inl rfl
  · exact .inr ⟨p, l, TT, rfl, h.ext e (n p (by simp [Pd.ad])) (n l (by simp [Pd.ad])), tabs_ext t e (fun a z => n a (List.mem_cons_of_mem _ (List.mem_cons_of_mem _ z))) m⟩
inductive Rl (K : PySem.W.Frag) (B : Bs) (T : List Addr) (H : Hp) : L2.St → Env' → List Addr → Prop
  | nil : Rl K B T H [] [] []
  | un {o σ ρ A} : Rl K B T H σ ρ A → Rl K B T H (o :: σ) (.un :: ρ) A
  | im {v d σ ρ A} : Pu H v d → Rl K B T H σ ρ A → Rl K B T H (some v :: σ) (.im d :: ρ) A
  | od {v d σ ρ A} : Da K (T ++ B.S0) H v d → Rl K B T H σ ρ A → Rl K B T H (some v :: σ) (.od d :: ρ) A
  | rd {v m σ ρ A} : rm H T m v → Rl K B T H σ ρ A → Rl K B T H (some v :: σ) (.rd m :: ρ) A
  | mu {v m L σ ρ A} : own H m L v → (∀ a ∈ L, a ∉ A) → Rl K B T H σ ρ A → Rl K B T H (some v :: σ) (.mu m :: ρ) (L ++ A)
  | pl {p l R σ ρ A} : B.P = p :: l :: R → Rl K B T H σ ρ A → Rl K B T H (some (.ref p) :: σ) (.pl :: ρ) A
  | pt {p l R TT σ ρ A} : B.P = p :: l :: R → B.PP.tt = TT → Rl K B T H σ ρ A → Rl K B T H (some (.ref p) :: σ) (.pt TT :: ρ) A
structure Rep (K : PySem.W.Frag) (B : Bs) (A : List Addr) (H : Hp) (σ : L2.St) (ρ : Env') : Prop where
  rl : Rl K B (A ++ B.P) H σ ρ A
  ext : Ext B.P B.H0 H
  new : ∀ a ∈ A, B.H0 a = none
  pool : PoolOk B.PP H
  pool0 : PoolOk B.PP B.H0
  s0 : ∀ a ∈ B.S0, B.H0 a ≠ none
  gh : ∀ z ∈ B.Z, GR B A H z
theorem GR.off' {B : Bs} {A A' : List Addr} {H : Hp} {z : Gh} (h : GR B A H z) (f : ∀ a ∈ A', a ∈ A ∨ H a = none) : GR B A' H z :=
  z.off h fun a w => (List.mem_append.mp w).elim (fun w => (f a w).imp (fun w => List.mem_append_left _ w) id) fun w => .inl (List.mem_append_right _ w)
section
variable {K : PySem.W.Frag} {B : Bs} {A A' T X : List Addr} {H H' : Hp} {σ : L2.St} {ρ : Env'}
theorem Rl.len (h : Rl K B T H σ ρ A) : σ.length = ρ.length := by
  induction h <;> simp_all
theorem Rl.lsts (h : Rl K B T H σ ρ A) : Lsts A H := by
  induction h with
  | nil => exact .nil
  | mu o _ _ ih => exact (own_lsts o).app ih
  | _ => assumption
/-- the heap changes at addresses that no slot owns -/
theorem Rl.ext (h : Rl K B T H σ ρ A) (e : Ext X H H') (l : Lsts X H) (s : ∀ a ∈ X, a ∈ T) (n : ∀ a ∈ X, a ∉ A) : Rl K B T H' σ ρ A := by
  induction h with
  | nil => exact .nil
  | un _ ih => exact .un (ih n)
  | im p _ ih => exact .im (p.ext e l) (ih n)
  | od p _ ih => exact .od (p.ext e l fun a z => List.mem_append_left _ (s a z)) (ih n)
  | rd p _ ih => exact .rd (p.ext e l s) (ih n)
  | mu o d _ ih => exact .mu (o.ext e l fun a z w => n a w (List.mem_append_left _ z)) d (ih fun a z w => n a z (List.mem_append_right _ w))
  | pl p _ ih => exact .pl p (ih n)
  | pt p t _ ih => exact .pt p t (ih n)
/-- other addresses to be kept off -/
theorem Rl.off {T' : List Addr} (h : Rl K B T H σ ρ A) (f : ∀ a ∈ T', a ∈ T ∨ H a = none) : Rl K B T' H σ ρ A := by
  induction h with
  | nil => exact .nil
  | un _ ih => exact .un ih
  | im p _ ih => exact .im p ih
  | od p _ ih => exact .od (p.off fun a z => (List.mem_append.mp z).elim (fun z => (f a z).imp (fun z => List.mem_append_left _ z) id) fun z => .inl (List.mem_append_right _ z)) ih
  | rd p _ ih => exact .rd (p.off f) ih
  | mu o d _ ih => exact .mu o d ih
  | pl p _ ih => exact .pl p ih
  | pt p t _ ih => exact .pt p t ih
theorem Rep.lsts (h : Rep K B A H σ ρ) : Lsts A H := h.rl.lsts
theorem Rep.len (h : Rep K B A H σ ρ) : σ.length = ρ.length := h.rl.len
theorem Rep.pnew (h : Rep K B A H σ ρ) : ∀ a ∈ B.P, a ∉ A := fun a z w => h.pool0.lsts.some z (h.new a w)
theorem Rep.sub (h : Rep K B A H σ ρ) {a : Addr} (z : H a = none) : B.H0 a = none := by
  cases q : B.H0 a with
  | none => rfl
  | some o =>
    by_cases w : a ∈ B.P
    · exact absurd (z ▸ rfl : H a = none) (h.pool.lsts.some w)
    · rw [h.ext a o w q] at z
      cases z
/-- an expression's step: the pool may have turned, and new things have come -/
theorem Rep.step (h : Rep K B A H σ ρ) (e : Ext B.P H H') (k : PoolOk B.PP H') : Rep K B A H' σ ρ where
  rl := h.rl.ext e h.pool.lsts (fun a z => List.mem_append_right _ z) h.pnew
  ext := h.ext.trans e
  new := h.new
  pool := k
  pool0 := h.pool0
  s0 := h.s0
  gh := fun z hz => z.ext (h.gh z hz) e h.pool.lsts fun a w => List.mem_append_right _ w
/-- a slot -/
def sg : Env' → Nat → Sl
  | [], _ => .un
  | s :: _, 0 => s
  | _ :: r, i + 1 => sg r i
theorem Rl.get_im (h : Rl K B T H σ ρ A) {i : Nat} {d : D} (e : sg ρ i = .im d) : ∃ v, σ[i]? = some (some v) ∧ Pu H v d := by
  induction h generalizing i with
  | nil => cases e
  | @im v d' σ ρ A p r ih =>
    rcases i with _ | i
    · cases e; exact ⟨v, rfl, p⟩
    · exact ih e
  | _ =>
    rcases i with _ | i
    · cases e
    · rename_i ih; exact ih e
theorem Rl.get_od (h : Rl K B T H σ ρ A) {i : Nat} {d : D} (e : sg ρ i = .od d) : ∃ v, σ[i]? = some (some v) ∧ Da K (T ++ B.S0) H v d := by
  induction h generalizing i with
  | nil => cases e
  | @od v d' σ ρ A p r ih =>
    rcases i with _ | i
    · cases e; exact ⟨v, rfl, p⟩
    · exact ih e
  | _ =>
    rcases i with _ | i
    · cases e
    · rename_i ih; exact ih e
theorem Rl.get_rd (h : Rl K B T H σ ρ A) {i : Nat} {m : M} (e : sg ρ i = .rd m) : ∃ v, σ[i]? = some (some v) ∧ rm H T m v := by
  induction h generalizing i with
  | nil => cases e
  | @rd v d' σ ρ A p r ih =>
    rcases i with _ | i
    · cases e; exact ⟨v, rfl, p⟩
    · exact ih e
  | _ =>
    rcases i with _ | i
    · cases e
    · rename_i ih; exact ih e
theorem Rl.get_mu (h : Rl K B T H σ ρ A) {i : Nat} {m : M} (e : sg ρ i = .mu m) : ∃ v L, σ[i]? = some (some v) ∧ own H m L v ∧ ∀ a ∈ L, a ∈ A := by
  induction h generalizing i with
  | nil => cases e
  | @mu v d' L σ ρ A p n r ih =>
    rcases i with _ | i
    · cases e; exact ⟨v, L, rfl, p, fun a z => List.mem_append_left _ z⟩
    · obtain ⟨v, L, h1, h2, h3⟩ := ih e
      exact ⟨v, L, h1, h2, fun a z => List.mem_append_right _ (h3 a z)⟩
  | _ =>
    rcases i with _ | i
    · cases e
    · rename_i ih; exact ih e
theorem Rl.get_pl (h : Rl K B T H σ ρ A) {i : Nat} (e : sg ρ i = .pl) : ∃ p l R, σ[i]? = some (some (.ref p)) ∧ B.P = p :: l :: R := by
  induction h generalizing i with
  | nil => cases e
  | @pl p l R σ ρ A q r ih =>
    rcases i with _ | i
    · exact ⟨p, l, R, rfl, q⟩
    · exact ih e
  | _ =>
    rcases i with _ | i
    · cases e
    · rename_i ih; exact ih e
theorem Rl.get_pt (h : Rl K B T H σ ρ A) {i : Nat} {TT : List (Addr × Str)} (e : sg ρ i = .pt TT) : ∃ p l R, σ[i]? = some (some (.ref p)) ∧ B.P = p :: l :: R ∧ B.PP.tt = TT := by
  induction h generalizing i with
  | nil => cases e
  | @pt p l R TT' σ ρ A q t r ih =>
    rcases i with _ | i
    · cases e; exact ⟨p, l, R, rfl, q, t⟩
    · exact ih e
  | _ =>
    rcases i with _ | i
    · cases e
    · rename_i ih; exact ih e
end
end Nv
set_option Elab.async false
set_option linter.all false
set_option maxRecDepth 100000
/-! the value layer: expressions -/
namespace Nv
open PySem PySem.Spec PyProof.Rows L2
/-- what is wanted where an exception leaves: its class's name, its what -/
abbrev Exn := Str → D → Prop
abbrev WE := Env' → (Vl → Prop) → Exn → Prop
abbrev WA := Env' → (List Vl → Prop) → Exn → Prop
abbrev WT := Env' → (Bool → Prop) → Exn → Prop
/-- the context's part: the written part, its exceptions' classes, its wish -/
structure Vx where
  K : PySem.W.Frag
  cl : Str → Addr → Prop
  E : XK
/-- what stands for a result -/
def VR (K : PySem.W.Frag) (B : Bs) (A : List Addr) (H0 H : Hp) (v : V) : Vl → Prop
  | .p d => Pu H v d
  | .o d => Da K (A ++ B.P ++ B.S0) H v d
  | .b m => rm H B.P m v
  | .k m => rm H (A ++ B.P) m v
  | .f m => ∃ L, own H m L v ∧ ∀ a ∈ L, H0 a = none
  | .pl => ∃ p l R, B.P = p :: l :: R ∧ v = .ref p
/-- the same, what is new was there at H1 -/
def VRX (K : PySem.W.Frag) (B : Bs) (A : List Addr) (H0 H1 H : Hp) (v : V) : Vl → Prop
  | .p d => Pu H v d
  | .o d => Da K (A ++ B.P ++ B.S0) H v d
  | .b m => rm H B.P m v
  | .k m => rm H (A ++ B.P) m v
  | .f m => ∃ L, own H m L v ∧ ∀ a ∈ L, H0 a = none ∧ H1 a ≠ none
  | .pl => ∃ p l R, B.P = p :: l :: R ∧ v = .ref p
inductive VRA (K : PySem.W.Frag) (B : Bs) (A : List Addr) (H : Hp) : Hp → List V → List Vl → Prop
  | nil {H0} : VRA K B A H H0 [] []
  | cons {H0 H1 v r vs rs} : VRX K B A H0 H1 H v r → (∀ a, H1 a = none → H0 a = none) → VRA K B A H H1 vs rs → VRA K B A H H0 (v :: vs) (r :: rs)
/-- what lies in the dict of an exception of the program -/
abbrev xdV (nm : Str) (y : V) : HO := .xd [(("kind" : Str), V.str nm), (("what" : Str), y)]
/-- the wish of exceptions is met -/
def XLink (X : Vx) (B : Bs) (Ex : Exn) : Prop := ∀ (nm : Str) (d : D) (C dx : Addr) (y : V) (H' : Hp), Ex nm d → X.cl nm C → H' dx = some (xdV nm y) → Da X.K (B.P ++ B.S0) H' y d → Ext B.P B.H0 H' → PoolOk B.PP H' → X.E (.ref C) (some dx) H'
def liftE (X : Vx) (T : WE) : TE := fun σ H Q => ∃ B A ρ, Rep X.K B A H σ ρ ∧ ∃ Po Ex, T ρ Po Ex ∧ XLink X B Ex ∧ ∀ r v H', Po r → Ext B.P H H' → PoolOk B.PP H' → VR X.K B A H H' v r → Q v H'
def liftT (X : Vx) (T : WT) : TT := fun σ H Q => ∃ B A ρ, Rep X.K B A H σ ρ ∧ ∃ Po Ex, T ρ Po Ex ∧ XLink X B Ex ∧ ∀ r H', Po r → Ext B.P H H' → PoolOk B.PP H' → Q r H'
def liftA (X : Vx) (T : WA) : TA := fun σ H Q => ∃ B A ρ, Rep X.K B A H σ ρ ∧ ∃ Po Ex, T ρ Po Ex ∧ XLink X B Ex ∧ ∀ rs vs H', Po rs → Ext B.P H H' → PoolOk B.PP H' → VRA X.K B A H' H vs rs → Q vs H'
section
variable {K : PySem.W.Frag} {B : Bs} {A : List Addr} {H H0 H' : Hp} {v : V} {vs : List V} {r : Vl} {rs : List Vl}
theorem pool_back {P : Pd} (k : PoolOk P H') (e : Ext P.ad H H') {a : Addr} (z : H' a = none) : H a = none := by
  cases q : H a with
  | none => rfl
  | some o =>
    by_cases w : a ∈ P.ad
    · exact absurd z (k.lsts.some w)
    · rw [e a o w q] at z
      cases z
theorem VR.ext (h : VR K B A H0 H v r) (e : Ext B.P H H') (k : PoolOk B.PP H) (k0 : PoolOk B.PP H0) : VR K B A H0 H' v r := by
  cases r with
  | p d => exact Pu.ext e k.lsts h
  | o d => exact Da.ext e k.lsts (fun a z => by simp [z]) h
  | b m => exact rm.ext e k.lsts (fun a z => z) h
  | k m => exact rm.ext e k.lsts (fun a z => List.mem_append_right _ z) h
  | f m =>
    obtain ⟨L, h1, h2⟩ := h
    exact ⟨L, h1.ext e k.lsts fun a z w => k0.lsts.some w (h2 a z), h2⟩
  | pl => exact h
theorem VRX.vr {H1 : Hp} (h : VRX K B A H0 H1 H v r) : VR K B A H0 H v r := by
  cases r with
  | f m =>
    obtain ⟨L, h1, h2⟩ := h
    exact ⟨L, h1, fun a z => (h2 a z).1⟩
  | _ => exact h
theorem VRX.ext {H1 : Hp} (h : VRX K B A H0 H1 H v r) (e : Ext B.P H H') (k : PoolOk B.PP H) (k0 : PoolOk B.PP H0) : VRX K B A H0 H1 H' v r := by
  cases r with
  | p d => exact Pu.ext e k.lsts h
  | o d => exact Da.ext e k.lsts (fun a z => by simp [z]) h
  | b m => exact rm.ext e k.lsts (fun a z => z) h
  | k m => exact rm.ext e k.lsts (fun a z => List.mem_append_right _ z) h
  | f m =>
    obtain ⟨L, h1, h2⟩ := h
    exact ⟨L, h1.ext e k.lsts fun a z w => k0.lsts.some w (h2 a z).1, h2⟩
  | pl => exact h
theorem VR.back {H1 : Hp} (h : VR K B A H1 H v r) (e : Ext B.P H0 H1) (k : PoolOk B.PP H1) : VR K B A H0 H v r := by
  cases r with
  | p d => exact h
  | o d => exact h
  | b m => exact h
  | k m => exact h
  | f m =>
    obtain ⟨L, h1, h2⟩ := h
    exact ⟨L, h1, fun a z => pool_back k e (h2 a z)⟩
  | pl => exact h
theorem VRA.back {H1 : Hp} (h : VRA K B A H H1 vs rs) (e : ∀ a, H1 a = none → H0 a = none) : VRA K B A H H0 vs rs := by
  cases h with
  | nil => exact .nil
  | cons h b t =>
    refine .cons ?_ (fun a z => e a (b a z)) t
    rename_i r _ _
    cases r with
    | f m =>
      obtain ⟨L, h1, h2⟩ := h
      exact ⟨L, h1, fun a z => ⟨e a (h2 a z).1, (h2 a z).2⟩⟩
    | _ => exact h
theorem VR.back2 {H1 : Hp} (h : VR K B A H1 H v r) (e : ∀ a, H1 a = none → H0 a = none) : VR K B A H0 H v r := by
  cases r with
  | f m =>
    obtain ⟨L, h1, h2⟩ := h
    exact ⟨L, h1, fun a z => e a (h2 a z)⟩
  | _ => exact h
/-- behind the expression it is there -/
theorem VR.vrx (h : VR K B A H0 H v r) : VRX K B A H0 H H v r := by
  cases r with
  | f m =>
    obtain ⟨L, h1, h2⟩ := h
    exact ⟨L, h1, fun a z => ⟨h2 a z, (own_lsts h1).some z⟩⟩
  | _ => exact h
/-- a new thing is off what was there -/
theorem VR.nw {p : Addr} {o : HO} (h : VR K B A H0 H v r) (hp : H p = none) (k : PoolOk B.PP H) (k0 : PoolOk B.PP H0) : VR K B A H0 (upd H p o) v r := h.ext (Ext.new hp) k k0
theorem PoolOk.nw {P : Pd} {p : Addr} {o : HO} (k : PoolOk P H) (hp : H p = none) : PoolOk P (upd H p o) := k.ext (Ext.new (L := []) hp) (by simp)
end
/-! ### the forms of expressions -/
section
variable {X : Vx} {TA TB TC : WE}
abbrev F1 := Vl → (Vl → Prop) → Prop
abbrev F2 := Vl → Vl → (Vl → Prop) → Prop
abbrev FA := List Vl → (Vl → Prop) → Prop
def eBin (F : F2) (TA TB : WE) : WE := fun ρ Q Ex => TA ρ (fun a => TB ρ (fun b => F a b Q) Ex) Ex
def eUn (F : F1) (TA : WE) : WE := fun ρ Q Ex => TA ρ (fun a => F a Q) Ex
def eAs (F : FA) (TA : WA) : WE := fun ρ Q Ex => TA ρ (fun as => F as Q) Ex
def aNil : WA := fun _ Q _ => Q []
def aCons (TA : WE) (TB : WA) : WA := fun ρ Q Ex => TA ρ (fun a => TB ρ (fun as => Q (a :: as)) Ex) Ex
/-- what such a form has to show: nothing of the slots -/
def Core2 (K : PySem.W.Frag) (F : F2) (r : R2) : Prop := ∀ (B : Bs) (A : List Addr) (H0 H : Hp) (ra rb : Vl) (va vb : V) (Po : Vl → Prop) (Q : VK), PoolOk B.PP H0 → PoolOk B.PP H → Ext B.P H0 H → VR K B A H0 H va ra → VR K B A H0 H vb rb → F ra rb Po →
  (∀ r v H', Po r → Ext B.P H H' → PoolOk B.PP H' → VR K B A H0 H' v r → Q v H') → r va vb H Q
def Core1 (K : PySem.W.Frag) (F : F1) (r : V → Hp → VK → Prop) : Prop := ∀ (B : Bs) (A : List Addr) (H0 H : Hp) (ra : Vl) (va : V) (Po : Vl → Prop) (Q : VK), PoolOk B.PP H0 → PoolOk B.PP H → Ext B.P H0 H → VR K B A H0 H va ra → F ra Po →
  (∀ r v H', Po r → Ext B.P H H' → PoolOk B.PP H' → VR K B A H0 H' v r → Q v H') → r va H Q
def CoreA (K : PySem.W.Frag) (F : FA) (r : List V → Hp → VK → Prop) : Prop := ∀ (B : Bs) (A : List Addr) (H0 H : Hp) (rs : List Vl) (vs : List V) (Po : Vl → Prop) (Q : VK), PoolOk B.PP H0 → PoolOk B.PP H → Ext B.P H0 H → VRA K B A H H0 vs rs → F rs Po →
  (∀ r v H', Po r → Ext B.P H H' → PoolOk B.PP H' → VR K B A H0 H' v r → Q v H') → r vs H Q
theorem lift_bin {F : F2} {r : R2} (core : Core2 X.K F r) : ∀ σ H Q, liftE X (eBin F TA TB) σ H Q → tOp r (liftE X TA) (liftE X TB) σ H Q := by
  rintro σ H Q ⟨B, A, ρ, R, Po, Ex, h, xl, q⟩
  refine ⟨B, A, ρ, R, _, Ex, h, xl, fun ra va H1 p1 e1 k1 r1 => ⟨B, A, ρ, R.step e1 k1, _, Ex, p1, xl, fun rb vb H2 p2 e2 k2 r2 => ?_⟩⟩
  exact core B A H H2 ra rb va vb Po Q R.pool k2 (e1.trans e2) (r1.ext e2 k1 R.pool) (r2.back e1 k1) p2 fun r v H' hp e k z => q r v H' hp ((e1.trans e2).trans e) k z
theorem lift_un {F : F1} {r : V → Hp → VK → Prop} (core : Core1 X.K F r) : ∀ σ H Q, liftE X (eUn F TA) σ H Q → tUn r (liftE X TA) σ H Q := by
  rintro σ H Q ⟨B, A, ρ, R, Po, Ex, h, xl, q⟩
  refine ⟨B, A, ρ, R, _, Ex, h, xl, fun ra va H1 p1 e1 k1 r1 => ?_⟩
  exact core B A H H1 ra va Po Q R.pool k1 e1 r1 p1 fun r v H' hp e k z => q r v H' hp (e1.trans e) k z
theorem lift_as {F : FA} {r : List V → Hp → VK → Prop} {ta : WA} (core : CoreA X.K F r) : ∀ σ H Q, liftE X (eAs F ta) σ H Q → tCB r (liftA X ta) σ H Q := by
  rintro σ H Q ⟨B, A, ρ, R, Po, Ex, h, xl, q⟩
  refine ⟨B, A, ρ, R, _, Ex, h, xl, fun ra va H1 p1 e1 k1 r1 => ?_⟩
  exact core B A H H1 ra va Po Q R.pool k1 e1 r1 p1 fun r v H' hp e k z => q r v H' hp (e1.trans e) k z
end
theorem peV {X : Cx} {e : Expr} {t t' : TE} (h : PE X e t) (w : ∀ σ H Q, t' σ H Q → t σ H Q) : PE X e t' := ⟨fun pins s σ H Q I q => h.run pins s σ H Q I (w σ H Q q)⟩
theorem paV {X : Cx} {es : List Expr} {t t' : TA} (h : PA X es t) (w : ∀ σ H R, t' σ H R → t σ H R) : PA X es t' := ⟨fun pos pins s σ H R I q => h.run pos pins s σ H R I (w σ H R q)⟩
/-! ### values of one -/
section
variable {Y : Cx} {X : Vx}
theorem ptW {e : Expr} {t t' : TT} (h : PT Y e t) (w : ∀ σ H Q, t' σ H Q → t σ H Q) : PT Y e t' := ⟨fun pins s σ H Q I q => h.run pins s σ H Q I (w σ H Q q)⟩
/-- a constant -/
def eC (d : D) : WE := fun _ Q _ => Q (.p d)
theorem lift_c {v : V} {d : D} (hv : ∀ H, Pu H v d) : ∀ σ H Q, liftE X (eC d) σ H Q → tC v σ H Q := by
  rintro σ H Q ⟨B, A, ρ, R, Po, Ex, h, xl, q⟩
  exact q _ v H h .refl R.pool (hv H)
theorem ve_int {i : Int} {j : Nat} {pos : Pos} : PE Y (.Constant (.int i) j pos) (liftE X (eC (.int i))) := peV pe_int (lift_c fun _ => .int i)
theorem ve_bl {i : Bool} {j : Nat} {pos : Pos} : PE Y (.Constant (.bool i) j pos) (liftE X (eC (.bool i))) := peV pe_bl (lift_c fun _ => .bl i)
theorem ve_non {j : Nat} {pos : Pos} : PE Y (.Constant .none j pos) (liftE X (eC .none)) := peV pe_non (lift_c fun _ => .non)
theorem ve_str {x : Str} {j : Nat} {pos : Pos} : PE Y (.Constant (.str x) j pos) (liftE X (eC (.str x))) := peV pe_str (lift_c fun _ => .str x)
theorem ve_const {e : Expr} {i : Int} (h : PE Y e (tC (.int i))) : PE Y e (liftE X (eC (.int i))) := peV h (lift_c fun _ => .int i)
/-- a name -/
def eVar (i : Nat) : WE := fun ρ Q _ => match sg ρ i with
  | .im d => Q (.p d)
  | .od d => Q (.o d)
  | .rd m => Q (.k m)
  | .mu m => Q (.b m)
  | .pl => Q .pl
  | .pt _ => Q .pl
  | _ => False
theorem lift_var {i : Nat} : ∀ σ H Q, liftE X (eVar i) σ H Q → tVar i σ H Q := by
  rintro σ H Q ⟨B, A, ρ, R, Po, Ex, h, xl, q⟩
  unfold eVar at h
  split at h
  · rename_i d e
    obtain ⟨v, h1, h2⟩ := R.rl.get_im e
    exact ⟨v, h1, q _ v H h .refl R.pool h2⟩
  · rename_i d e
    obtain ⟨v, h1, h2⟩ := R.rl.get_od e
    exact ⟨v, h1, q _ v H h .refl R.pool h2⟩
  · rename_i d e
    obtain ⟨v, h1, h2⟩ := R.rl.get_rd e
    exact ⟨v, h1, q _ v H h .refl R.pool h2⟩
  · rename_i d e
    obtain ⟨v, L, h1, h2, h3⟩ := R.rl.get_mu e
    exact ⟨v, h1, q _ v H h .refl R.pool (h2.rm fun a z w => R.pnew a w (h3 a z))⟩
  · rename_i e
    obtain ⟨p, l, R', h1, h2⟩ := R.rl.get_pl e
    exact ⟨_, h1, q _ _ H h .refl R.pool ⟨p, l, R', h2, rfl⟩⟩
  · rename_i e
    obtain ⟨p, l, R', h1, h2, _⟩ := R.rl.get_pt e
    exact ⟨_, h1, q _ _ H h .refl R.pool ⟨p, l, R', h2, rfl⟩⟩
  · exact h.elim
theorem ve_var {e : Expr} {i : Nat} (h : PE Y e (tVar i)) : PE Y e (liftE X (eVar i)) := peV h lift_var
/-! ### arguments -/
theorem va_nil : PA Y [] (liftA X aNil) := paV pa_nil fun σ H R ⟨B, A, ρ, r, Po, Ex, h, xl, q⟩ => q [] [] H h .refl r.pool .nil
theorem va_cons {e : Expr} {es : List Expr} {t : WE} {u : WA} (h : PE Y e (liftE X t)) (k : PA Y es (liftA X u)) (hs : starEach (e :: es) Y.env = (false, eval e Y.env) :: starEach es Y.env := by rfl) : PA Y (e :: es) (liftA X (aCons t u)) :=
  paV (pa_cons h k hs) fun σ H Q ⟨B, A, ρ, R, Po, Ex, h, xl, q⟩ =>
    ⟨B, A, ρ, R, _, Ex, h, xl, fun ra va H1 p1 e1 k1 r1 => ⟨B, A, ρ, R.step e1 k1, _, Ex, p1, xl, fun rs vs H2 p2 e2 k2 r2 => q (ra :: rs) (va :: vs) H2 p2 (e1.trans e2) k2 (.cons (r1.vrx.ext e2 k1 R.pool) (fun a z => pool_back k1 e1 z) r2)⟩⟩
/-! ### tests -/
def tBo (T : WE) : WT := fun ρ Q Ex => T ρ (fun r => match r with | .p (.bool b) => Q b | _ => False) Ex
theorem lift_test {T : WE} : ∀ σ H Q, liftT X (tBo T) σ H Q → tTest (liftE X T) σ H Q := by
  rintro σ H Q ⟨B, A, ρ, R, Po, Ex, h, xl, q⟩
  refine ⟨B, A, ρ, R, _, Ex, h, xl, fun r v H1 p1 e1 k1 r1 => ?_⟩
  split at p1
  · cases r1
    exact ⟨_, rfl, q _ H1 p1 e1 k1⟩
  · exact p1.elim
def tNotV' (T : WT) : WT := fun ρ Q Ex => T ρ (fun b => Q (!b)) Ex
def tAnd' (T U : WT) : WT := fun ρ Q Ex => T ρ (fun b => if b = true then U ρ Q Ex else Q false) Ex
def tOr' (T U : WT) : WT := fun ρ Q Ex => T ρ (fun b => if b = true then Q true else U ρ Q Ex) Ex
theorem vt_val {e : Expr} {t : WE} (h : PE Y e (liftE X t)) (he : ∀ whole, isTrue e Y.env whole = (do let v ← whole; standAt e.pos; holding [v] (truthy v)) := by intro _; rfl) : PT Y e (liftT X (tBo t)) := ptW (pt_val h he) lift_test
theorem vt_not {e : Expr} {t : WT} {pos : Pos} (h : PT Y e (liftT X t)) : PT Y (.UnaryOp .Not e pos) (liftT X (tNotV' t)) := ptW (pt_not h) fun σ H Q ⟨B, A, ρ, R, Po, Ex, h, xl, q⟩ =>
  ⟨B, A, ρ, R, _, Ex, h, xl, fun b H1 p1 e1 k1 => q _ H1 p1 e1 k1⟩
theorem pwW {e : Expr} {t t' : TT} (h : PW Y e t) (w : ∀ σ H Q, t' σ H Q → t σ H Q) : PW Y e t' := ⟨fun wh pins s σ H Q I q => h.run wh pins s σ H Q I (w σ H Q q)⟩
theorem vw_and {a b : Expr} {rest : List Expr} {t u : WT} {pos : Pos} (h : PT Y a (liftT X t)) (k : PW Y (.BoolOp .And (b :: rest) pos) (liftT X u)) : PW Y (.BoolOp .And (a :: b :: rest) pos) (liftT X (tAnd' t u)) := pwW (pw_and h k) fun σ H Q ⟨B, A, ρ, R, Po, Ex, h, xl, q⟩ => by
  refine ⟨B, A, ρ, R, _, Ex, h, xl, fun c H1 p1 e1 k1 => ?_⟩
  cases c with
  | true =>
    rw [if_pos rfl] at p1 ⊢
    exact ⟨B, A, ρ, R.step e1 k1, _, Ex, p1, xl, fun c2 H2 p2 e2 k2 => q c2 H2 p2 (e1.trans e2) k2⟩
  | false =>
    rw [if_neg Bool.false_ne_true] at p1 ⊢
    exact q _ H1 p1 e1 k1
theorem vw_or {a b : Expr} {rest : List Expr} {t u : WT} {pos : Pos} (h : PT Y a (liftT X t)) (k : PW Y (.BoolOp .Or (b :: rest) pos) (liftT X u)) : PW Y (.BoolOp .Or (a :: b :: rest) pos) (liftT X (tOr' t u)) := pwW (pw_or h k) fun σ H Q ⟨B, A, ρ, R, Po, Ex, h, xl, q⟩ => by
  refine ⟨B, A, ρ, R, _, Ex, h, xl, fun c H1 p1 e1 k1 => ?_⟩
  cases c with
  | true =>
    rw [if_pos rfl] at p1 ⊢
    exact q _ H1 p1 e1 k1
  | false =>
    rw [if_neg Bool.false_ne_true] at p1 ⊢
    exact ⟨B, A, ρ, R.step e1 k1, _, Ex, p1, xl, fun c2 H2 p2 e2 k2 => q c2 H2 p2 (e1.trans e2) k2⟩
theorem vt_cmp {op : CmpOp} {r : R2} {a b : Expr} {F : F2} {TA TB : WE} {pos : Pos} (ho : OpR Y (compareOp op) r) (core : Core2 X.K F r) (ha : PE Y a (liftE X TA)) (hb : PE Y b (liftE X TB)) (hm : behindInMarks op b = false) : PT Y (.Compare a [op] [b] pos) (liftT X (tBo (eBin F TA TB))) :=
  ptW (pt_cmpR ho ha hb hm) fun σ H Q h => by
    obtain ⟨B, A, ρ, R, Po, Ex, h, xl, q⟩ := h
    refine lift_bin core σ H _ ⟨B, A, ρ, R, _, Ex, h, xl, fun r v H1 p1 e1 k1 r1 => ?_⟩
    split at p1
    · cases r1
      exact ⟨_, rfl, q _ H1 p1 e1 k1⟩
    · exact p1.elim
theorem ve_cmp {op : CmpOp} {r : R2} {a b : Expr} {F : F2} {TA TB : WE} {pos : Pos} (ho : OpR Y (compareOp op) r) (core : Core2 X.K F r) (ha : PE Y a (liftE X TA)) (hb : PE Y b (liftE X TB)) (hm : behindInMarks op b = false) : PE Y (.Compare a [op] [b] pos) (liftE X (eBin F TA TB)) :=
  peV (pe_cmpR ho ha hb hm) (lift_bin core)
theorem ve_op {op : Operator} {r : R2} {a b : Expr} {F : F2} {TA TB : WE} {pos : Pos} (ho : OpR Y (binaryOp op) r) (core : Core2 X.K F r) (ha : PE Y a (liftE X TA)) (hb : PE Y b (liftE X TB)) : PE Y (.BinOp a op b pos) (liftE X (eBin F TA TB)) :=
  peV (pe_op ho ha hb) (lift_bin core)
theorem ve_un {op : UnaryOp} {r : V → Hp → VK → Prop} {a : Expr} {F : F1} {TA : WE} {pos : Pos} (ho : UnR Y (unaryOp op) r) (core : Core1 X.K F r) (ha : PE Y a (liftE X TA)) : PE Y (.UnaryOp op a pos) (liftE X (eUn F TA)) := peV (pe_un ho ha) (lift_un core)
theorem ve_ix {r : R2} {a b : Expr} {F : F2} {TA TB : WE} {pos : Pos} (ho : IxR Y r) (core : Core2 X.K F r) (ha : PE Y a (liftE X TA)) (hb : PE Y b (liftE X TB)) (hs : PlainIx b) : PE Y (.Subscript a b pos) (liftE X (eBin F TA TB)) :=
  peV (pe_ix ho ha hb hs) (lift_bin core)
/-- x if c else y -/
def eIf (c : WT) (TA TB : WE) : WE := fun ρ Q Ex => c ρ (fun b => if b = true then TA ρ Q Ex else TB ρ Q Ex) Ex
theorem ve_if {c a b : Expr} {tc : WT} {TA TB : WE} {pos : Pos} (hc : PT Y c (liftT X tc)) (ha : PE Y a (liftE X TA)) (hb : PE Y b (liftE X TB)) : PE Y (.IfExp c a b pos) (liftE X (eIf tc TA TB)) :=
  peV (pe_ifExp hc ha hb) fun σ H Q ⟨B, A, ρ, R, Po, Ex, h, xl, q⟩ => by
    refine ⟨B, A, ρ, R, _, Ex, h, xl, fun c H1 p1 e1 k1 => ?_⟩
    cases c with
    | true =>
      rw [if_pos rfl] at p1 ⊢
      exact ⟨B, A, ρ, R.step e1 k1, _, Ex, p1, xl, fun r v H2 p2 e2 k2 r2 => q r v H2 p2 (e1.trans e2) k2 (r2.back e1 k1)⟩
    | false =>
      rw [if_neg Bool.false_ne_true] at p1 ⊢
      exact ⟨B, A, ρ, R.step e1 k1, _, Ex, p1, xl, fun r v H2 p2 e2 k2 r2 => q r v H2 p2 (e1.trans e2) k2 (r2.back e1 k1)⟩
/-- and, or, not, as values -/
def eAndV (TA TB : WE) : WE := fun ρ Q Ex => TA ρ (fun r => match r with | .p (.bool b) => (if b = true then TB ρ Q Ex else Q (.p (.bool false))) | _ => False) Ex
def eOrV (TA TB : WE) : WE := fun ρ Q Ex => TA ρ (fun r => match r with | .p (.bool b) => (if b = true then Q (.p (.bool true)) else TB ρ Q Ex) | _ => False) Ex
def fNotV : F1 := fun r Q => match r with | .p (.bool b) => Q (.p (.bool (!b))) | _ => False
theorem ve_one {op : BoolOp} {a : Expr} {T : WE} {pos : Pos} (h : PE Y a (liftE X T)) : PE Y (.BoolOp op [a] pos) (liftE X T) := pe_one h
theorem ve_and {a b : Expr} {rest : List Expr} {TA TB : WE} {pos : Pos} (ha : PE Y a (liftE X TA)) (hb : PE Y (.BoolOp .And (b :: rest) pos) (liftE X TB)) : PE Y (.BoolOp .And (a :: b :: rest) pos) (liftE X (eAndV TA TB)) :=
  peV (pe_and ha hb) fun σ H Q ⟨B, A, ρ, R, Po, Ex, h, xl, q⟩ => by
    refine ⟨B, A, ρ, R, _, Ex, h, xl, fun c v H1 p1 e1 k1 r1 => ?_⟩
    split at p1
    · rename_i b
      cases r1
      refine ⟨b, rfl, ?_⟩
      cases b with
      | true =>
        rw [if_pos rfl] at p1 ⊢
        exact ⟨B, A, ρ, R.step e1 k1, _, Ex, p1, xl, fun r v H2 p2 e2 k2 r2 => q r v H2 p2 (e1.trans e2) k2 (r2.back e1 k1)⟩
      | false =>
        rw [if_neg Bool.false_ne_true] at p1 ⊢
        exact q _ _ H1 p1 e1 k1 (.bl false)
    · exact p1.elim
theorem ve_or {a b : Expr} {rest : List Expr} {TA TB : WE} {pos : Pos} (ha : PE Y a (liftE X TA)) (hb : PE Y (.BoolOp .Or (b :: rest) pos) (liftE X TB)) : PE Y (.BoolOp .Or (a :: b :: rest) pos) (liftE X (eOrV TA TB)) :=
  peV (pe_or ha hb) fun σ H Q ⟨B, A, ρ, R, Po, Ex, h, xl, q⟩ => by
    refine ⟨B, A, ρ, R, _, Ex, h, xl, fun c v H1 p1 e1 k1 r1 => ?_⟩
    split at p1
    · rename_i b
      cases r1
      refine ⟨b, rfl, ?_⟩
      cases b with
      | true =>
        rw [if_pos rfl] at p1 ⊢
        exact q _ _ H1 p1 e1 k1 (.bl true)
      | false =>
        rw [if_neg Bool.false_ne_true] at p1 ⊢
        exact ⟨B, A, ρ, R.step e1 k1, _, Ex, p1, xl, fun r v H2 p2 e2 k2 r2 => q r v H2 p2 (e1.trans e2) k2 (r2.back e1 k1)⟩
    · exact p1.elim
theorem ve_not {a : Expr} {T : WE} {pos : Pos} (h : PE Y a (liftE X T)) : PE Y (.UnaryOp .Not a pos) (liftE X (eUn fNotV T)) :=
  peV (pe_not h) fun σ H Q ⟨B, A, ρ, R, Po, Ex, h, xl, q⟩ => by
    refine ⟨B, A, ρ, R, _, Ex, h, xl, fun c v H1 p1 e1 k1 r1 => ?_⟩
    unfold fNotV at p1
    split at p1
    · cases r1
      exact ⟨_, rfl, q _ _ H1 p1 e1 k1 (.bl _)⟩
    · exact p1.elim
/-- a < b <= c -/
def eChain (F G : F2) (TA TB TC : WE) : WE := fun ρ Q Ex => TA ρ (fun a => TB ρ (fun b => F a b fun z => match z with | .p (.bool k) => (if k = true then TC ρ (fun c => G b c Q) Ex else Q (.p (.bool false))) | _ => False) Ex) Ex
end
end Nv
set_option Elab.async false
set_option linter.all false
namespace Nv
open PySem PySem.Spec PyProof.Rows L2
/-- repr(x), x a number or None -/
def rReprO : List V → Hp → VK → Prop := fun xs H Q => (∃ i, xs = [.int i] ∧ i.natAbs.log2 < 1920 ∧ Q (.str (toString i)) H) ∨ (xs = [.non] ∧ Q (.str "None") H)
theorem call_reprO {X : Cx} : CallR X (.builtin "repr") rReprO := by
  intro pins s σ H xs us Q I r h
  rcases h with h | ⟨rfl, q⟩
  · exact SkE.call_repr_int pins s σ H xs us Q I r h
  · obtain ⟨u, rfl, rfl⟩ := vals1 r
    exact PySem.P.repr_of_none ⟨.str _, H, I.tok _, ⟨_, rfl⟩, q⟩
end Nv
set_option Elab.async false
set_option linter.all false
set_option maxRecDepth 100000
namespace Nv
open PySem PySem.Spec PyProof.Rows L2
/-! ### the form of a book, of any data -/
def wholeD : PyData → Bool
  | .int _ => true
  | _ => false
def inD (d : PyData) (lo hi : Int) : Bool := match d with
  | .int i => decide (lo ≤ i ∧ i ≤ hi)
  | _ => false
def tupD (d : PyData) (lo hi : Int) : Bool := match d with
  | .tuple ds => decide (lo ≤ (ds.length : Int) ∧ (ds.length : Int) ≤ hi)
  | _ => false
/-- a move's form behind the message last: its message -/
def pairD (last n : Int) (d : PyData) : Option Int := match d with
  | .tuple [.int m, .int t] => if last + 1 ≤ m ∧ m ≤ 99 ∧ 0 ≤ t ∧ t ≤ n - 1 then some m else none
  | _ => none
def pairsD (last n : Int) : List PyData → Bool
  | [] => true
  | d :: r => match pairD last n d with
    | some m => pairsD m n r
    | none => false
def stateD (n : Int) (d : PyData) : Bool := match d with
  | .tuple ds => decide (ds.length ≤ 5) && pairsD (-1) n ds
  | _ => false
def firstBad (n : Int) : List PyData → Nat → Option Int
  | [], _ => none
  | d :: r, i => if stateD n d = true then firstBad n r (i + 1) else some (i : Int)
/-- what BadBook tells of it -/
def formErr (d : PyData) : Option Int := match d with
  | .tuple ds => if 1 ≤ ds.length ∧ ds.length ≤ 8 then firstBad ds.length ds 0 else some (-1)
  | _ => some (-1)
theorem dpAll_len {K : PySem.W.Frag} {H : Hp} : ∀ {vs : List V} {ds : List PyData}, DpAll K H vs ds → vs.length = ds.length
  | _, _, .nil => rfl
  | _, _, .cons _ t => by rw [List.length_cons, List.length_cons, dpAll_len t]
theorem dpAll_get {K : PySem.W.Frag} {H : Hp} : ∀ {vs : List V} {ds : List PyData} {i : Nat} {d : PyData}, DpAll K H vs ds → ds[i]? = some d → ∃ v, vs[i]? = some v ∧ Dp K H v d
  | _, _, _, _, .nil, e => by simp at e
  | _, _, 0, _, .cons r _, e => by cases e; exact ⟨_, rfl, r⟩
  | _, _, i + 1, _, .cons _ t, e => by
    obtain ⟨v, h1, h2⟩ := dpAll_get (i := i) t (by simpa using e)
    exact ⟨v, by simpa using h1, h2⟩
theorem dpAll_get' {K : PySem.W.Frag} {H : Hp} : ∀ {vs : List V} {ds : List PyData} {i : Nat} {v : V}, DpAll K H vs ds → vs[i]? = some v → ∃ d, ds[i]? = some d ∧ Dp K H v d
  | _, _, _, _, .nil, e => by simp at e
  | _, _, 0, _, .cons r _, e => by cases e; exact ⟨_, rfl, r⟩
  | _, _, i + 1, _, .cons _ t, e => by
    obtain ⟨v, h1, h2⟩ := dpAll_get' (i := i) t (by simpa using e)
    exact ⟨v, by simpa using h1, h2⟩
/-- the type of data -/
def tyD : PyData → String
  | .none => "NoneType"
  | .bool _ => "bool"
  | .int _ => "int"
  | .str _ => "str"
  | .list _ => "list"
  | .tuple _ => "tuple"
  | .dict _ => "dict"
theorem SqT.tyT {K : PySem.W.Frag} {H : Hp} {a : Addr} {xs : List V} (h : SqT K H a xs) : TyX K H (.ref a) (.type "tuple") := by
  rcases h with (h | ⟨o, h⟩) | ⟨o, its, n, e, c, _⟩
  · exact .base (.tup h)
  · exact .fTuple h
  · exact .kTuple e c
theorem SqL.tyL {K : PySem.W.Frag} {H : Hp} {a : Addr} {xs : List V} (h : SqL K H a xs) : TyX K H (.ref a) (.type "list") := by
  rcases h with (h | ⟨o, h⟩) | ⟨o, its, n, e, c, _⟩
  · exact .base (.lst h)
  · exact .base (.frz h)
  · exact .kList e c
theorem Dp.ty {K : PySem.W.Frag} {H : Hp} {v : V} {d : PyData} (h : Dp K H v d) : TyX K H v (.type (tyD d)) := by
  cases h with
  | non => exact .base .non
  | bl b => exact .base (.bl b)
  | int i => exact .base (.int i)
  | str x => exact .base (.str x)
  | lst h _ => exact SqL.tyL h
  | tup h _ => exact SqT.tyT h
theorem pairs_cons {last n : Int} {d : PyData} {r : List PyData} : pairsD last n (d :: r) = match pairD last n d with | some m => pairsD m n r | none => false := rfl
end Nv
set_option Elab.async false
set_option linter.all false
set_option maxRecDepth 100000
namespace Nv
open PySem PySem.Spec PyProof.Rows L2
/-! ### written data -/
mutual
theorem Dp.ext0 {K : PySem.W.Frag} {H H' : Hp} (e : Ext [] H H') : ∀ {v : V} {d : PyData}, Dp K H v d → Dp K H' v d
  | _, _, .non => .non
  | _, _, .bl b => .bl b
  | _, _, .int i => .int i
  | _, _, .str x => .str x
  | _, _, .lst h t => .lst (e.frz (by simp) h) (DpAll.ext0 e t)
  | _, _, .tup h t => .tup (e.tup Lsts.nil h) (DpAll.ext0 e t)
theorem DpAll.ext0 {K : PySem.W.Frag} {H H' : Hp} (e : Ext [] H H') : ∀ {vs : List V} {ds : List PyData}, DpAll K H vs ds → DpAll K H' vs ds
  | _, _, .nil => .nil
  | _, _, .cons h t => .cons (Dp.ext0 e h) (DpAll.ext0 e t)
end
theorem peW {X : Cx} {e : Expr} {t t' : TE} (h : PE X e t) (w : ∀ σ H Q, t' σ H Q → t σ H Q) : PE X e t' := ⟨fun pins s σ H Q I q => h.run pins s σ H Q I (w σ H Q q)⟩
theorem paW {X : Cx} {es : List Expr} {t t' : TA} (h : PA X es t) (w : ∀ σ H R, t' σ H R → t σ H R) : PA X es t' := ⟨fun pos pins s σ H R I q => h.run pos pins s σ H R I (w σ H R q)⟩
/-- data told by the slots -/
def tDat (K : PySem.W.Frag) (f : L2.St → Option PyData) : TE := fun σ H Q => ∃ d, f σ = some d ∧ ∀ v H', Ext [] H H' → Dp K H' v d → Q v H'
def tDats (K : PySem.W.Frag) (f : L2.St → Option (List PyData)) : TA := fun σ H R => ∃ ds, f σ = some ds ∧ ds.length ≤ 1000 ∧ ∀ vs H', Ext [] H H' → DpAll K H' vs ds → R vs H'
/-- a new list of data -/
def tDatL (K : PySem.W.Frag) (f : L2.St → Option (List PyData)) : TE := fun σ H Q => ∃ ds, f σ = some ds ∧ ds.length ≤ 1000 ∧ ∀ p vs H', H p = none → H' p = some (.lst vs) → Ext [] H H' → DpAll K H' vs ds → Q (.ref p) H'
def consO (f : L2.St → Option PyData) (g : L2.St → Option (List PyData)) : L2.St → Option (List PyData) := fun σ => match f σ, g σ with
  | some d, some ds => some (d :: ds)
  | _, _ => none
def slotI (i : Nat) (σ : L2.St) : Option PyData := match σ[i]? with
  | some (some (.int n)) => some (.int n)
  | _ => none
theorem slotI_some {i : Nat} {σ : L2.St} {d : PyData} (h : slotI i σ = some d) : ∃ n, σ[i]? = some (some (.int n)) ∧ d = .int n := by
  unfold slotI at h
  split at h
  · rename_i n e
    exact ⟨n, e, (Option.some.inj h).symm⟩
  · cases h
def tupO (g : L2.St → Option (List PyData)) (σ : L2.St) : Option PyData := match g σ with
  | some l => if l.length ≤ 1000 then some (.tuple l) else none
  | none => none
theorem tupO_some {g : L2.St → Option (List PyData)} {σ : L2.St} {d : PyData} (h : tupO g σ = some d) : ∃ l, g σ = some l ∧ l.length ≤ 1000 ∧ d = .tuple l := by
  unfold tupO at h
  split at h
  · rename_i l e
    split at h
    · rename_i hl
      exact ⟨l, e, hl, (Option.some.inj h).symm⟩
    · cases h
  · cases h
theorem consO_some {f : L2.St → Option PyData} {g : L2.St → Option (List PyData)} {σ : L2.St} {l : List PyData} (h : consO f g σ = some l) : ∃ d ds, f σ = some d ∧ g σ = some ds ∧ l = d :: ds := by
  unfold consO at h
  split at h
  · rename_i d ds e1 e2
    exact ⟨d, ds, e1, e2, (Option.some.inj h).symm⟩
  · cases h
section
variable {X : Cx} {K : PySem.W.Frag}
theorem pd_int {i : Int} {j : Nat} {pos : Pos} : PE X (.Constant (.int i) j pos) (tDat K fun _ => some (.int i)) := peW pe_int fun σ H Q ⟨_, e, q⟩ => by cases e; exact q _ H .refl (.int i)
theorem pd_neg {i : Int} {j : Nat} {pos pos' : Pos} : PE X (.UnaryOp .USub (.Constant (.int i) j pos) pos') (tDat K fun _ => some (.int (-i))) := peW (pe_un un_neg pe_int) fun σ H Q ⟨_, e, q⟩ => by cases e; exact ⟨i, rfl, q _ H .refl (.int _)⟩
theorem pd_bool {b : Bool} {j : Nat} {pos : Pos} : PE X (.Constant (.bool b) j pos) (tDat K fun _ => some (.bool b)) := peW pe_bl fun σ H Q ⟨_, e, q⟩ => by cases e; exact q _ H .refl (.bl b)
theorem pd_none {j : Nat} {pos : Pos} : PE X (.Constant .none j pos) (tDat K fun _ => some .none) := peW pe_non fun σ H Q ⟨_, e, q⟩ => by cases e; exact q _ H .refl .non
theorem pd_str {x : Str} {j : Nat} {pos : Pos} : PE X (.Constant (.str x) j pos) (tDat K fun _ => some (.str x)) := peW pe_str fun σ H Q ⟨_, e, q⟩ => by cases e; exact q _ H .refl (.str x)
/-- a slot that holds a number -/
theorem pd_var {e : Expr} {i : Nat} (h : PE X e (tVar i)) : PE X e (tDat K (slotI i)) := peW h fun σ H Q ⟨d, e, q⟩ => by
  obtain ⟨n, hs, rfl⟩ := slotI_some e
  exact ⟨_, hs, q _ H .refl (.int n)⟩
theorem pds_nil : PA X [] (tDats K fun _ => some []) := paW pa_nil fun σ H R ⟨_, e, _, q⟩ => by cases e; exact q [] H .refl .nil
theorem pds_cons {e : Expr} {es : List Expr} {f : L2.St → Option PyData} {g : L2.St → Option (List PyData)} (h : PE X e (tDat K f)) (r : PA X es (tDats K g)) (hs : starEach (e :: es) X.env = (false, eval e X.env) :: starEach es X.env := by rfl) :
    PA X (e :: es) (tDats K (consO f g)) := paW (pa_cons h r hs) fun σ H R ⟨ds, e, hl, q⟩ => by
  obtain ⟨d, l, hf, hg, rfl⟩ := consO_some e
  rw [List.length_cons] at hl
  exact ⟨d, hf, fun v H1 e1 h1 => ⟨l, hg, by omega, fun vs H2 e2 h2 => q (v :: vs) H2 (e1.trans e2) (.cons (Dp.ext0 e2 h1) h2)⟩⟩
theorem pd_tup {es : List Expr} {g : L2.St → Option (List PyData)} {c : Nat} {pos : Pos} (h : PA X es (tDats K g)) : PE X (.Tuple es c pos) (tDat K (tupO g)) :=
  peW (pe_tup h) fun σ H Q ⟨d, e, q⟩ => by
    obtain ⟨l, hg, hl, rfl⟩ := tupO_some e
    refine ⟨l, hg, hl, fun vs H' e1 h1 => ⟨by rw [dpAll_len h1]; exact Nat.le_of_lt (small1000 hl), fun p hp => ?_⟩⟩
    have e2 : Ext [] H' (upd H' p (.tup vs)) := .new hp
    exact q _ _ (e1.trans e2) (.tup (.of upd_same) (DpAll.ext0 e2 h1))
theorem pd_lst {es : List Expr} {g : L2.St → Option (List PyData)} {pos : Pos} (h : PA X es (tDats K g)) : PE X (.List es pos) (tDatL K g) :=
  peW (pe_lst h) fun σ H Q ⟨l, e, hl, q⟩ => ⟨l, e, hl, fun vs H' e1 h1 => ⟨by rw [dpAll_len h1]; exact Nat.le_of_lt (small1000 hl), fun p hp => by
    have e2 : Ext [] H' (upd H' p (.lst vs)) := .new hp
    exact q p vs _ (e1.free hp) upd_same (e1.trans e2) (DpAll.ext0 e2 h1)⟩⟩
end
end Nv
namespace Nv
open PySem PySem.Spec PyProof.Rows L2
theorem DpAll.append {K : PySem.W.Frag} {H : Hp} : ∀ {vs ws : List V} {ds es : List PyData}, DpAll K H vs ds → DpAll K H ws es → DpAll K H (vs ++ ws) (ds ++ es)
  | _, _, _, _, .nil, h => h
  | _, _, _, _, .cons r t, h => .cons r (DpAll.append t h)
theorem DpAll.rep {K : PySem.W.Frag} {H : Hp} {vs : List V} {ds : List PyData} (h : DpAll K H vs ds) : ∀ k : Nat, DpAll K H (List.replicate k vs).flatten (List.replicate k ds).flatten
  | 0 => .nil
  | k + 1 => by
    rw [List.replicate_succ, List.replicate_succ, List.flatten_cons, List.flatten_cons]
    exact DpAll.append h (DpAll.rep h k)
def repO (g : L2.St → Option (List PyData)) (k : Int) (σ : L2.St) : Option PyData := match g σ with
  | some l => if l ≠ [] ∧ l.length ≤ 1000 ∧ 2 ≤ k ∧ k ≤ 1000 then some (.tuple (List.replicate k.toNat l).flatten) else none
  | none => none
theorem pd_rep {X : Cx} {es : List Expr} {g : L2.St → Option (List PyData)} {c j : Nat} {k : Int} {pos p2 p3 : Pos} (h : PA X es (tDats X.K g)) : PE X (.BinOp (.Tuple es c pos) .Mult (.Constant (.int k) j p2) p3) (tDat X.K (repO g k)) :=
  peW (pe_op op_repT (pe_tup h) pe_int) fun σ H Q ⟨d, e, q⟩ => by
    unfold repO at e
    split at e
    · rename_i l hg
      split at e
      · rename_i hc
        obtain ⟨h1, h2, h3, h4⟩ := hc
        cases e
        refine ⟨l, hg, h2, fun vs H' e1 hd => ⟨by rw [dpAll_len hd]; exact Nat.le_of_lt (small1000 h2), fun p hp => ?_⟩⟩
        have e2 : Ext [] H' (upd H' p (.tup vs)) := .new hp
        refine ⟨p, k, vs, rfl, rfl, .of upd_same, fun z => h1 ?_, h3, h4, by rw [dpAll_len hd]; exact h2, fun t ht => ?_⟩
        · have := dpAll_len hd
          rw [z] at this
          exact List.eq_nil_of_length_eq_zero this.symm
        · have e3 := e2.put2 (o := .tup (List.replicate k.toNat vs).flatten) ht
          exact q _ _ (e1.trans e3) (.tup (.of upd_same) (DpAll.rep (DpAll.ext0 e3 hd) k.toNat))
      · cases e
    · cases e
end Nv
namespace Nv
open PySem PySem.Spec PyProof.Rows L2
mutual
def noL : PyData → Bool
  | .list _ => false
  | .tuple ds => noLs ds
  | _ => true
def noLs : List PyData → Bool
  | [] => true
  | d :: r => noL d && noLs r
end
mutual
theorem Dp.extL {K : PySem.W.Frag} {L : List Addr} {H H' : Hp} (e : Ext L H H') (l : Lsts L H) : ∀ {v : V} {d : PyData}, Dp K H v d → noL d = true → Dp K H' v d
  | _, _, .non, _ => .non
  | _, _, .bl b, _ => .bl b
  | _, _, .int i, _ => .int i
  | _, _, .str x, _ => .str x
  | _, _, .lst _ _, h => by simp [noL] at h
  | _, _, .tup h t, n => .tup (e.tup l h) (DpAll.extL e l t (by simpa [noL] using n))
theorem DpAll.extL {K : PySem.W.Frag} {L : List Addr} {H H' : Hp} (e : Ext L H H') (l : Lsts L H) : ∀ {vs : List V} {ds : List PyData}, DpAll K H vs ds → noLs ds = true → DpAll K H' vs ds
  | _, _, .nil, _ => .nil
  | _, _, .cons h t, n => by
    simp only [noLs, Bool.and_eq_true] at n
    exact .cons (Dp.extL e l h n.1) (DpAll.extL e l t n.2)
end
end Nv
set_option linter.all false
namespace Nv
open PySem PySem.Spec PyProof.Rows L2
/-! ### what may be shown -/
theorem int_short {i : Int} (h1 : -1 ≤ i) (h2 : i < 8) : PyData.leavesShort 8 (.int i) = true := by
  have : i = -1 ∨ i = 0 ∨ i = 1 ∨ i = 2 ∨ i = 3 ∨ i = 4 ∨ i = 5 ∨ i = 6 ∨ i = 7 := by omega
  rcases this with rfl | rfl | rfl | rfl | rfl | rfl | rfl | rfl | rfl <;> decide +kernel
structure ShowOk (d : PyData) : Prop where
  a : d.showable = true
  b : d.hasDict = false
  c : d.depth ≤ 60
  d : d.shown.length ≤ sizeLine
end Nv
set_option Elab.async false
set_option linter.all false
set_option maxRecDepth 100000
namespace Nv
open PySem PySem.Spec PyProof.Rows L2
/-! ### repr of any data -/
/-- repr(x) of data; nothing is being shown around -/
def rReprA (K : PySem.W.Frag) : List V → Hp → VK → Prop := fun xs H Q => ∃ (v : V) (d : PyData), xs = [v] ∧ Dp K H v d ∧ ShowOk d ∧ Q (.str d.shown) H
theorem call_reprA {X : Cx} (hu : X.A.units + 64 < cLine) (hg : X.A.guards = some []) : CallR X (.builtin "repr") (rReprA X.K) := by
  intro pins s σ H xs us Q I r h
  obtain ⟨v, d, rfl, hd, sh, q⟩ := h
  cases hd with
  | non =>
    obtain ⟨u, rfl, rfl⟩ := vals1 r
    exact PySem.P.repr_of_none ⟨.str _, H, I.tok _, ⟨_, rfl⟩, q⟩
  | bl b =>
    obtain ⟨u, rfl, rfl⟩ := vals1 r
    exact PySem.P.repr_of_bool ⟨.str _, H, I.tok _, ⟨_, rfl⟩, q⟩
  | int i =>
    exact SkE.call_repr_int pins s σ H _ us Q I r ⟨i, rfl, of_decide_eq_true sh.a, q⟩
  | str x =>
    obtain ⟨u, rfl, rx⟩ := vals1 r
    obtain ⟨t, rfl⟩ := rx
    exact PySem.P.repr_of_str ⟨.str _, H, I.tok _, ⟨_, rfl⟩, q⟩ sh.d
  | lst h1 h2 => exact call_reprD hu hg pins s σ H _ us Q I r ⟨_, _, rfl, .lst h1 h2, sh.a, sh.b, sh.c, sh.d, q⟩
  | tup h1 h2 => exact call_reprD hu hg pins s σ H _ us Q I r ⟨_, _, rfl, .tup h1 h2, sh.a, sh.b, sh.c, sh.d, q⟩
theorem call_reprAK (K : PySem.W.Frag) {X : Cx} (hu : X.A.units + 64 < cLine) (hg : X.A.guards = some []) (eK : X.K = K := by rfl) : CallR X (.builtin "repr") (rReprA K) := by
  subst eK
  exact call_reprA hu hg
/-- what is shown of some data -/
theorem show_mk {d : PyData} {n : Nat} (a : d.showable = true) (b : d.hasDict = false) (c : d.depth ≤ 60) (e : PyData.leavesShort 8 d = true) (k : PyData.bulk d ≤ n) (hn : n ≤ 60) : ShowOk d where
  a := a
  b := b
  c := c
  d := by
    have k2 := PyData.shown_le_bulk 8 (Nat.le_refl _) d e
    refine Nat.le_of_lt (small1000 (Nat.le_trans k2 ?_))
    omega
theorem nat_short {n : Nat} (h : n < 8) : PyData.leavesShort 8 (.int (n : Int)) = true := int_short (by omega) (by omega)
abbrev iN (l : List Nat) : List Int := l.map fun n : Nat => (n : Int)
theorem map_nV_iN (l : List Nat) : l.map nV = (iN l).map V.int := by rw [List.map_map]; rfl
theorem str_ne (x : Str) : (!decide (V.str x = V.str x)) = false := by rw [decide_eq_true rfl]; rfl
theorem str_eq (x : Str) : decide (V.str x = V.str x) = true := decide_eq_true rfl
theorem str_small {e : Int} (h : -1 ≤ e ∧ e ≤ 8) : (Str.ofString (toString e)).length ≤ 8 := by
  have : e = -1 ∨ e = 0 ∨ e = 1 ∨ e = 2 ∨ e = 3 ∨ e = 4 ∨ e = 5 ∨ e = 6 ∨ e = 7 ∨ e = 8 := by omega
  rcases this with rfl | rfl | rfl | rfl | rfl | rfl | rfl | rfl | rfl | rfl <;> decide +kernel
theorem show_int {e : Int} (h : -1 ≤ e ∧ e ≤ 8) : ShowOk (.int e) ∧ (PyData.int e).shown.length ≤ 100 := by
  have sl := str_small h
  have hlog : e.natAbs.log2 < 1920 := Nat.lt_of_le_of_lt (Nat.log2_le_self _) (by omega)
  have e1 : (PyData.int e).shown.length = (Str.ofString (toString e)).length := rfl
  exact ⟨⟨decide_eq_true hlog, rfl, (by show (0 : Nat) ≤ 60; decide), by rw [e1]; exact Nat.le_of_lt (small1000 (by omega))⟩, by omega⟩
end Nv
set_option Elab.async false
set_option linter.all false
set_option maxRecDepth 100000
/-! the value layer: what the operators do -/
namespace Nv
open PySem PySem.Spec PyProof.Rows L2
theorem sl1000 {n : Nat} (h : n ≤ 1000) : n ≤ sizeLine := by rw [sizeLine_eq]; omega
section
variable {K : PySem.W.Frag}
/-! ### numbers -/
/-- a number, a bool, a text of odd data is one of pure data -/
def Vl.s : Vl → Vl
  | .o (.int i) => .p (.int i)
  | .o (.bool i) => .p (.bool i)
  | .o (.str i) => .p (.str i)
  | .o .none => .p .none
  | r => r
theorem VR.s {B : Bs} {A : List Addr} {H0 H : Hp} {v : V} {r : Vl} (h : VR K B A H0 H v r) : VR K B A H0 H v r.s := by
  unfold Vl.s
  split
  · cases h; exact .int _
  · cases h; exact .bl _
  · cases h; exact .str _
  · cases h; exact .non
  · exact h
def fI0 (g : Int → Int → D) : F2 := fun a b Q => match a.s, b.s with | .p (.int i), .p (.int j) => Q (.p (g i j)) | _, _ => False
def fI (C : Int → Int → Prop) (g : Int → Int → D) : F2 := fun a b Q => match a.s, b.s with | .p (.int i), .p (.int j) => C i j ∧ Q (.p (g i j)) | _, _ => False
theorem core_I0 {g : Int → Int → V} {g' : Int → Int → D} (hg : ∀ H i j, Pu H (g i j) (g' i j)) : Core2 K (fI0 g') (rI0 g) := by
  intro B A H0 H ra rb va vb Po Q k0 k e va' vb' h q
  unfold fI0 at h
  have va'' := va'.s
  have vb'' := vb'.s
  split at h
  · rename_i h1 h2
    rw [h1] at va''
    rw [h2] at vb''
    cases va''; cases vb''
    exact ⟨_, _, rfl, rfl, q _ _ H h .refl k (hg H _ _)⟩
  · exact h.elim
theorem core_I {C : Int → Int → Prop} {g : Int → Int → V} {g' : Int → Int → D} (hg : ∀ H i j, Pu H (g i j) (g' i j)) : Core2 K (fI C g') (rI C g) := by
  intro B A H0 H ra rb va vb Po Q k0 k e va' vb' h q
  unfold fI at h
  have va'' := va'.s
  have vb'' := vb'.s
  split at h
  · rename_i h1 h2
    rw [h1] at va''
    rw [h2] at vb''
    cases va''; cases vb''
    exact ⟨_, _, rfl, rfl, h.1, q _ _ H h.2 .refl k (hg H _ _)⟩
  · exact h.elim
abbrev fAdd : F2 := fI0 fun i j => .int (i + j)
abbrev fSub : F2 := fI0 fun i j => .int (i - j)
abbrev fLt : F2 := fI0 fun i j => .bool (decide (i < j))
abbrev fLe : F2 := fI0 fun i j => .bool (decide (i ≤ j))
abbrev fGt : F2 := fI0 fun i j => .bool (decide (j < i))
abbrev fGe : F2 := fI0 fun i j => .bool (decide (j ≤ i))
abbrev fMul : F2 := fI CMul fun i j => .int (i * j)
abbrev fMod : F2 := fI (fun _ j => 0 < j) fun i j => .int (i % j)
abbrev fFdiv : F2 := fI CDiv fun i j => .int (i / j)
theorem c_add : Core2 K fAdd (rI0 fun i j => .int (i + j)) := core_I0 fun _ _ _ => .int _
theorem c_sub : Core2 K fSub (rI0 fun i j => .int (i - j)) := core_I0 fun _ _ _ => .int _
theorem c_lt : Core2 K fLt (rI0 fun i j => .bl (decide (i < j))) := core_I0 fun _ _ _ => .bl _
theorem c_le : Core2 K fLe (rI0 fun i j => .bl (decide (i ≤ j))) := core_I0 fun _ _ _ => .bl _
theorem c_gt : Core2 K fGt (rI0 fun i j => .bl (decide (j < i))) := core_I0 fun _ _ _ => .bl _
theorem c_ge : Core2 K fGe (rI0 fun i j => .bl (decide (j ≤ i))) := core_I0 fun _ _ _ => .bl _
theorem c_mul : Core2 K fMul (rI CMul fun i j => .int (i * j)) := core_I fun _ _ _ => .int _
theorem c_mod : Core2 K fMod (rI (fun _ j => 0 < j) fun i j => .int (i % j)) := core_I fun _ _ _ => .int _
theorem c_fdiv : Core2 K fFdiv (rI CDiv fun i j => .int (i / j)) := core_I fun _ _ _ => .int _
def fNeg : F1 := fun a Q => match a with | .p (.int i) => Q (.p (.int (-i))) | _ => False
theorem c_neg : Core1 K fNeg (rU fun i => .int (-i)) := by
  intro B A H0 H ra va Po Q k0 k e va' h q
  unfold fNeg at h
  split at h
  · cases va'
    exact ⟨_, rfl, q _ _ H h .refl k (.int _)⟩
  · exact h.elim
def fAddS : F2 := fun a b Q => match a, b with | .p (.str x), .p (.str y) => x.length + y.length ≤ sizeLine ∧ Q (.p (.str (x ++ y))) | _, _ => False
theorem c_addS : Core2 K fAddS (fun x y H Q => ∃ i j, x = .str i ∧ y = .str j ∧ i.length + j.length ≤ sizeLine ∧ Q (.str (i ++ j)) H) := by
  intro B A H0 H ra rb va vb Po Q k0 k e va' vb' h q
  unfold fAddS at h
  split at h
  · cases va'; cases vb'
    exact ⟨_, _, rfl, rfl, h.1, q _ _ H h.2 .refl k (.str _)⟩
  · exact h.elim
/-! ### data: what is read of it -/
mutual
def M.dat : M → Option D
  | .L ds => some (.list ds)
  | .LL ms => (M.datA ms).map .list
  | .DK _ => none
  | .FK _ => none
def M.datA : List M → Option (List D)
  | [] => some []
  | m :: ms => match m.dat, M.datA ms with
    | some d, some ds => some (d :: ds)
    | _, _ => none
end
def Vl.dat : Vl → Option D
  | .p d => some d
  | .o d => some d
  | .b m => m.dat
  | .k m => m.dat
  | .f m => m.dat
  | .pl => none
theorem PuA.dp {H : Hp} {vs : List V} {ds : List D} (h : PuA H vs ds) : DpAll K H vs ds := (h.da (S := [])).dp
mutual
theorem rm_dp {S : List Addr} {H : Hp} : ∀ {m : M} {v : V} {d : D}, rm H S m v → m.dat = some d → Dp K H v d
  | .L ds, v, d, ⟨a, vs, e, h, p⟩, z => by
    cases z; subst e
    exact .lst (.of h.1) p.dp
  | .LL ms, v, d, ⟨a, vs, e, h, p⟩, z => by
    subst e
    unfold M.dat at z
    cases q : M.datA ms with
    | none => rw [q] at z; cases z
    | some ds =>
      rw [q] at z; cases z
      exact .lst (.of h.1) (rmA_dp p q)
  | .DK _, _, _, _, z => by cases z
  | .FK _, _, _, _, z => by cases z
theorem rmA_dp {S : List Addr} {H : Hp} : ∀ {ms : List M} {vs : List V} {ds : List D}, rmA H S ms vs → M.datA ms = some ds → DpAll K H vs ds
  | [], _, _, e, z => by
    cases z
    unfold rmA at e
    subst e
    exact .nil
  | m :: ms, vs, ds, ⟨v, ws, e, h, t⟩, z => by
    subst e
    unfold M.datA at z
    split at z
    · rename_i d ds' e1 e2
      cases z
      exact .cons (rm_dp h e1) (rmA_dp t e2)
    · cases z
end
theorem VR.dp {B : Bs} {A : List Addr} {H0 H : Hp} {v : V} {r : Vl} {d : D} (h : VR K B A H0 H v r) (e : r.dat = some d) : Dp K H v d := by
  cases r with
  | p d => cases e; exact Pu.dp h
  | o d => cases e; exact Da.dp h
  | b m => exact rm_dp h e
  | k m => exact rm_dp h e
  | f m =>
    obtain ⟨L, h, _⟩ := h
    exact rm_dp (h.rm (S := []) fun _ _ z => nomatch z) e
  | pl => cases e
/-- == of numbers, texts, bools, None -/
def eqS : D → D → Option Bool
  | .int i, .int j => some (decide (i = j))
  | .bool i, .bool j => some (decide (i = j))
  | .str i, .str j => some (decide (i = j))
  | .none, .none => some true
  | .none, .int _ => some false
  | .int _, .none => some false
  | .none, .bool _ => some false
  | .bool _, .none => some false
  | .none, .str _ => some false
  | .str _, .none => some false
  | .int _, .str _ => some false
  | .str _, .int _ => some false
  | .bool _, .str _ => some false
  | .str _, .bool _ => some false
  | _, _ => none
theorem eqS_ok {H : Hp} {x y : V} {d e : D} {b : Bool} (hx : Pu H x d) (hy : Pu H y e) (h : eqS d e = some b) : scal x y = true ∧ decide (x = y) = b := by
  unfold eqS at h
  split at h <;> first | (cases h; done) | skip
  all_goals (cases hx; cases hy; cases h; refine ⟨rfl, ?_⟩; simp)
def fEqS (neg : Bool) : F2 := fun a b Q => match a.s, b.s with
  | .p d, .p e => (match eqS d e with | some c => Q (.p (.bool (if neg = true then !c else c))) | none => False)
  | _, _ => False
theorem c_eqS : Core2 K (fEqS false) rEq := by
  intro B A H0 H ra rb va vb Po Q k0 k e va' vb' h q
  unfold fEqS at h
  have va'' := va'.s
  have vb'' := vb'.s
  split at h
  · rename_i d e' h1 h2
    rw [h1] at va''
    rw [h2] at vb''
    split at h
    · rename_i c hc
      obtain ⟨h3, h4⟩ := eqS_ok va'' vb'' hc
      refine ⟨h3, ?_⟩
      rw [h4]
      exact q _ _ H h .refl k (.bl _)
    · exact h.elim
  · exact h.elim
theorem c_neS : Core2 K (fEqS true) rNe := by
  intro B A H0 H ra rb va vb Po Q k0 k e va' vb' h q
  unfold fEqS at h
  have va'' := va'.s
  have vb'' := vb'.s
  split at h
  · rename_i d e' h1 h2
    rw [h1] at va''
    rw [h2] at vb''
    split at h
    · rename_i c hc
      obtain ⟨h3, h4⟩ := eqS_ok va'' vb'' hc
      refine ⟨h3, ?_⟩
      rw [h4]
      exact q _ _ H h .refl k (.bl _)
    · exact h.elim
  · exact h.elim
/-- == of data -/
def fEqD (neg : Bool) : F2 := fun a b Q => match a.dat, b.dat with
  | some d, some e => SeqAt.shaped d = true ∧ SeqAt.shaped e = true ∧ Q (.p (.bool (if neg = true then !PyData.eqv d e else PyData.eqv d e)))
  | _, _ => False
theorem c_eqD : Core2 K (fEqD false) (rEqD K) := by
  intro B A H0 H ra rb va vb Po Q k0 k e va' vb' h q
  unfold fEqD at h
  split at h
  · rename_i d e' h1 h2
    exact ⟨d, e', va'.dp h1, vb'.dp h2, h.1, h.2.1, q _ _ H h.2.2 .refl k (.bl _)⟩
  · exact h.elim
theorem c_neD : Core2 K (fEqD true) (rNeD K) := by
  intro B A H0 H ra rb va vb Po Q k0 k e va' vb' h q
  unfold fEqD at h
  split at h
  · rename_i d e' h1 h2
    exact ⟨d, e', va'.dp h1, vb'.dp h2, h.1, h.2.1, q _ _ H h.2.2 .refl k (.bl _)⟩
  · exact h.elim
def fInD (neg : Bool) : F2 := fun a b Q => match a.dat, b.dat with
  | some d, some (.list ds) => SeqAt.shaped d = true ∧ SeqAt.shaped (.list ds) = true ∧ Q (.p (.bool (if neg = true then !(ds.any fun z => PyData.eqv z d) else ds.any fun z => PyData.eqv z d)))
  | _, _ => False
theorem c_inD : Core2 K (fInD false) (rInD K) := by
  intro B A H0 H ra rb va vb Po Q k0 k e va' vb' h q
  unfold fInD at h
  split at h
  · rename_i d e' h1 h2
    exact ⟨d, e', va'.dp h1, vb'.dp h2, h.1, h.2.1, q _ _ H h.2.2 .refl k (.bl _)⟩
  · exact h.elim
theorem c_notInD : Core2 K (fInD true) (rNotInD K) := by
  intro B A H0 H ra rb va vb Po Q k0 k e va' vb' h q
  unfold fInD at h
  split at h
  · rename_i d e' h1 h2
    exact ⟨d, e', va'.dp h1, vb'.dp h2, h.1, h.2.1, q _ _ H h.2.2 .refl k (.bl _)⟩
  · exact h.elim
/-- x is None, x is True -/
def fIsN (neg : Bool) : F2 := fun a b Q => match b with
  | .p .none => Q (.p (.bool (match a.s with | .p .none => !neg | _ => neg)))
  | _ => False
theorem non_iff {B : Bs} {A : List Addr} {H0 H : Hp} {v : V} {r : Vl} (h : VR K B A H0 H v r) : decide (v = .non) = (match r.s with | .p .none => true | _ => false) := by
  have h := h.s
  have notM : ∀ {m : M} {S : List Addr}, rm H S m v → v ≠ .non := fun {m S} h => by
    cases m <;> first | (obtain ⟨a, vs, e, _⟩ := h; rw [e]; exact fun z => nomatch z) | (obtain ⟨a, o, vs, e, _⟩ := h; rw [e]; exact fun z => nomatch z)
  split
  · rename_i e
    rw [e] at h
    cases h
    rfl
  · rename_i hn
    refine decide_eq_false fun z => ?_
    subst z
    revert h hn
    cases hr : r.s with
    | p d => intro hn h; cases h; exact hn rfl
    | o d =>
      intro hn h
      cases h
      cases r <;> simp [Vl.s] at hr
      rename_i d'
      cases d' <;> simp_all [Vl.s]
    | b m => intro _ h; exact notM h rfl
    | k m => intro _ h; exact notM h rfl
    | pl => rintro _ ⟨p, l, R', _, h⟩; cases h
    | f m => rintro _ ⟨L, h, _⟩; exact notM (h.rm (S := []) fun _ _ z => nomatch z) rfl
theorem c_isN : Core2 K (fIsN false) (fun x y H Q => y = .non ∧ Q (.bl (decide (x = .non))) H) := by
  intro B A H0 H ra rb va vb Po Q k0 k e va' vb' h q
  unfold fIsN at h
  split at h
  · cases vb'
    refine ⟨rfl, ?_⟩
    rw [non_iff va']
    refine q _ _ H h .refl k ?_
    split <;> exact .bl _
  · exact h.elim
theorem c_notN : Core2 K (fIsN true) (fun x y H Q => y = .non ∧ Q (.bl (!decide (x = .non))) H) := by
  intro B A H0 H ra rb va vb Po Q k0 k e va' vb' h q
  unfold fIsN at h
  split at h
  · cases vb'
    refine ⟨rfl, ?_⟩
    rw [non_iff va']
    refine q _ _ H h .refl k ?_
    split <;> exact .bl _
  · exact h.elim
def fIsB (neg : Bool) : F2 := fun a b Q => match a.s, b with
  | .p (.bool x), .p (.bool y) => Q (.p (.bool (if neg = true then !decide (x = y) else decide (x = y))))
  | _, _ => False
theorem c_isB : Core2 K (fIsB false) rIsB := by
  intro B A H0 H ra rb va vb Po Q k0 k e va' vb' h q
  unfold fIsB at h
  have va'' := va'.s
  split at h
  · rename_i h1
    rw [h1] at va''
    cases va''; cases vb'
    exact ⟨_, _, rfl, rfl, q _ _ H h .refl k (.bl _)⟩
  · exact h.elim
theorem c_notB : Core2 K (fIsB true) rNotB := by
  intro B A H0 H ra rb va vb Po Q k0 k e va' vb' h q
  unfold fIsB at h
  have va'' := va'.s
  split at h
  · rename_i h1
    rw [h1] at va''
    cases va''; cases vb'
    exact ⟨_, _, rfl, rfl, q _ _ H h .refl k (.bl _)⟩
  · exact h.elim
/-! ### parts -/
theorem atI_get {α : Type} {xs : List α} {i : Int} {x : α} (h : atI xs i = some x) : ∃ j, xs[j]? = some x ∧ ixN xs.length i = some j := by
  unfold atI at h
  cases e : ixN xs.length i with
  | none => rw [e] at h; cases h
  | some j => rw [e] at h; exact ⟨j, h, rfl⟩
theorem atI_of {α : Type} {xs : List α} {i : Int} {x : α} {j : Nat} (e : ixN xs.length i = some j) (h : xs[j]? = some x) : atI xs i = some x := by
  unfold atI
  rw [e]
  exact h
theorem PuA.at {H : Hp} {vs : List V} {ds : List D} {i : Int} {d : D} (h : PuA H vs ds) (e : atI ds i = some d) : ∃ v, atI vs i = some v ∧ Pu H v d := by
  obtain ⟨j, h1, h2⟩ := atI_get e
  obtain ⟨v, h3, h4⟩ := h.get' h1
  exact ⟨v, atI_of (by rw [h.len]; exact h2) h3, h4⟩
theorem DaA.at {S : List Addr} {H : Hp} {vs : List V} {ds : List D} {i : Int} {d : D} (h : DaA K S H vs ds) (e : atI ds i = some d) : ∃ v, atI vs i = some v ∧ Da K S H v d := by
  obtain ⟨j, h1, h2⟩ := atI_get e
  obtain ⟨v, h3, h4⟩ := h.get' h1
  exact ⟨v, atI_of (by rw [h.len]; exact h2) h3, h4⟩
theorem rmA_len {S : List Addr} {H : Hp} : ∀ {ms : List M} {vs : List V}, rmA H S ms vs → vs.length = ms.length
  | [], _, e => by unfold rmA at e; subst e; rfl
  | _ :: _, _, ⟨v, ws, e, _, t⟩ => by subst e; rw [List.length_cons, List.length_cons, rmA_len t]
theorem rmA_get {S : List Addr} {H : Hp} : ∀ {ms : List M} {vs : List V} {i : Nat} {m : M}, rmA H S ms vs → ms[i]? = some m → ∃ v, vs[i]? = some v ∧ rm H S m v
  | [], _, _, _, _, z => by simp at z
  | m :: ms, _, 0, _, ⟨v, ws, e, h, t⟩, z => by subst e; cases z; exact ⟨v, rfl, h⟩
  | m :: ms, _, i + 1, _, ⟨v, ws, e, h, t⟩, z => by
    subst e
    obtain ⟨u, h1, h2⟩ := rmA_get t (i := i) (by simpa using z)
    exact ⟨u, by simpa using h1, h2⟩
theorem rmA_at {S : List Addr} {H : Hp} {ms : List M} {vs : List V} {i : Int} {m : M} (h : rmA H S ms vs) (e : atI ms i = some m) : ∃ v, atI vs i = some v ∧ rm H S m v := by
  obtain ⟨j, h1, h2⟩ := atI_get e
  obtain ⟨v, h3, h4⟩ := rmA_get h h1
  exact ⟨v, atI_of (by rw [rmA_len h]; exact h2) h3, h4⟩
/-- t[i] -/
def fIxT : F2 := fun a b Q => match a, b.s with
  | .p (.tuple ds), .p (.int i) => ∃ d, atI ds i = some d ∧ Q (.p d)
  | .o (.tuple ds), .p (.int i) => ∃ d, atI ds i = some d ∧ Q (.o d)
  | _, _ => False
theorem c_ixT : Core2 K fIxT (rIxT K) := by
  intro B A H0 H ra rb va vb Po Q k0 k e va' vb' h q
  unfold fIxT at h
  have vb'' := vb'.s
  split at h
  · rename_i h1
    rw [h1] at vb''
    cases vb''
    obtain ⟨d, h2, h3⟩ := h
    cases va' with
    | tup z t =>
      obtain ⟨v, h4, h5⟩ := t.at h2
      exact ⟨_, _, _, v, rfl, rfl, z.sq, h4, q _ _ H h3 .refl k h5⟩
  · rename_i h1
    rw [h1] at vb''
    cases vb''
    obtain ⟨d, h2, h3⟩ := h
    cases va' with
    | tup z t =>
      obtain ⟨v, h4, h5⟩ := t.at h2
      exact ⟨_, _, _, v, rfl, rfl, z, h4, q _ _ H h3 .refl k h5⟩
  · exact h.elim
/-- a list, read: borrowed, or just made -/
def Vl.m : Vl → Option M
  | .b m => some m
  | .k m => some m
  | .f m => some m
  | _ => none
theorem VR.m {B : Bs} {A : List Addr} {H0 H : Hp} {v : V} {r : Vl} {m : M} (k0 : PoolOk B.PP H0) (h : VR K B A H0 H v r) (e : r.m = some m) : rm H B.P m v := by
  cases r with
  | p d => cases e
  | o d => cases e
  | b m => cases e; exact h
  | k m => cases e; exact rm.off (fun a z => .inl (List.mem_append_right _ z)) h
  | pl => cases e
  | f m =>
    cases e
    obtain ⟨L, h, n⟩ := h
    exact h.rm fun a z w => k0.lsts.some w (n a z)
/-- l[i] -/
def fIxL : F2 := fun a b Q => match a.m, b.s with
  | some (.L ds), .p (.int i) => ∃ d, atI ds i = some d ∧ Q (.p d)
  | some (.LL ms), .p (.int i) => ∃ m, atI ms i = some m ∧ Q (match a with | .k _ => .k m | _ => .b m)
  | _, _ => False
theorem c_ixL : Core2 K fIxL (rIxL K) := by
  intro B A H0 H ra rb va vb Po Q k0 k e va' vb' h q
  unfold fIxL at h
  have vb'' := vb'.s
  split at h
  · rename_i h0 h1
    rw [h1] at vb''
    cases vb''
    obtain ⟨d, h2, h3⟩ := h
    obtain ⟨a, vs, rfl, l, t⟩ := va'.m k0 h0
    obtain ⟨v, h4, h5⟩ := t.at h2
    exact ⟨_, _, _, v, rfl, rfl, .of l.1, h4, q _ _ H h3 .refl k h5⟩
  · rename_i h0 h1
    rw [h1] at vb''
    cases vb''
    obtain ⟨d, h2, h3⟩ := h
    obtain ⟨a, vs, rfl, l, t⟩ := va'.m k0 h0
    obtain ⟨v, h4, h5⟩ := rmA_at t h2
    refine ⟨_, _, _, v, rfl, rfl, .of l.1, h4, q _ _ H h3 .refl k ?_⟩
    split
    · rename_i m'
      cases h0
      obtain ⟨a', vs', e', l', t'⟩ := va'
      cases e'
      obtain ⟨v', h4', h5'⟩ := rmA_at t' h2
      have hl : vs' = vs := by
        have l1 := l.1
        rw [l'.1] at l1
        cases l1
        rfl
      subst hl
      rw [h4] at h4'
      cases h4'
      exact h5'
    · exact h5
  · exact h.elim
/-- l[i], t[i] -/
def rIxA (K : PySem.W.Frag) : R2 := fun x y H Q => rIxL K x y H Q ∨ rIxT K x y H Q
theorem ix_anyK (K : PySem.W.Frag) {X : Cx} (h : X.K = K := by rfl) : IxR X (rIxA K) := by
  have h1 := ix_listK (X := X) K h
  have h2 := ix_tupK (X := X) K h
  intro va sl pins s σ H x y v u Q I rx ry z p
  rcases z with z | z
  · exact h1 va sl pins s σ H x y v u Q I rx ry z p
  · exact h2 va sl pins s σ H x y v u Q I rx ry z p
def fIx : F2 := fun a b Q => match a, b.s with
  | .p (.tuple ds), .p (.int i) => ∃ d, atI ds i = some d ∧ Q (.p d)
  | .o (.tuple ds), .p (.int i) => ∃ d, atI ds i = some d ∧ Q (.o d)
  | .b (.L ds), .p (.int i) => ∃ d, atI ds i = some d ∧ Q (.p d)
  | .k (.L ds), .p (.int i) => ∃ d, atI ds i = some d ∧ Q (.p d)
  | .f (.L ds), .p (.int i) => ∃ d, atI ds i = some d ∧ Q (.p d)
  | .b (.LL ms), .p (.int i) => ∃ m, atI ms i = some m ∧ Q (.b m)
  | .k (.LL ms), .p (.int i) => ∃ m, atI ms i = some m ∧ Q (.k m)
  | .f (.LL ms), .p (.int i) => ∃ m, atI ms i = some m ∧ Q (.b m)
  | _, _ => False
theorem c_ix : Core2 K fIx (rIxA K) := by
  intro B A H0 H ra rb va vb Po Q k0 k e va' vb' h q
  unfold fIx at h
  split at h
  · rename_i h1
    exact .inr (c_ixT B A H0 H _ rb va vb Po Q k0 k e va' vb' (by unfold fIxT; rw [h1]; exact h) q)
  · rename_i h1
    exact .inr (c_ixT B A H0 H _ rb va vb Po Q k0 k e va' vb' (by unfold fIxT; rw [h1]; exact h) q)
  · rename_i h1
    exact .inl (c_ixL B A H0 H _ rb va vb Po Q k0 k e va' vb' (by unfold fIxL; rw [h1]; exact h) q)
  · rename_i h1
    exact .inl (c_ixL B A H0 H _ rb va vb Po Q k0 k e va' vb' (by unfold fIxL; rw [h1]; exact h) q)
  · rename_i h1
    exact .inl (c_ixL B A H0 H _ rb va vb Po Q k0 k e va' vb' (by unfold fIxL; rw [h1]; exact h) q)
  · rename_i h1
    exact .inl (c_ixL B A H0 H _ rb va vb Po Q k0 k e va' vb' (by unfold fIxL; rw [h1]; exact h) q)
  · rename_i h1
    exact .inl (c_ixL B A H0 H _ rb va vb Po Q k0 k e va' vb' (by unfold fIxL; rw [h1]; exact h) q)
  · rename_i h1
    exact .inl (c_ixL B A H0 H _ rb va vb Po Q k0 k e va' vb' (by unfold fIxL; rw [h1]; exact h) q)
  · exact h.elim
/-! ### new tuples and lists -/
/-- all of pure data -/
def allP : List Vl → Option (List D)
  | [] => some []
  | r :: rest => match r.s with
    | .p d => (allP rest).map (d :: ·)
    | _ => none
theorem VRA.allP {B : Bs} {A : List Addr} {H : Hp} : ∀ {rs : List Vl} {H0 : Hp} {vs : List V} {ds : List D}, VRA K B A H H0 vs rs → allP rs = some ds → PuA H vs ds
  | [], _, _, _, h, e => by cases h; cases e; exact .nil
  | r :: rs, _, _, ds, h, e => by
    cases h with
    | cons h b t =>
      have h := h.vr.s
      unfold Nv.allP at e
      split at e
      · rename_i d er
        rw [er] at h
        cases q : Nv.allP rs with
        | none => rw [q] at e; cases e
        | some ds' =>
          rw [q] at e
          cases e
          exact .cons h (VRA.allP t q)
      · cases e
/-- a new tuple of pure data -/
theorem new_tup {H H' : Hp} {p : Addr} {vs : List V} {ds : List D} (hp : H p = none) (h : PuA H vs ds) (n : ∃ o : Obj, o.dict = none ∧ H' = upd H p (.frz o (.tup vs))) : Pu H' (.ref p) (.tuple ds) ∧ Ext [] H H' := by
  obtain ⟨o, h1, rfl⟩ := n
  exact ⟨.tup ⟨o, upd_same, h1⟩ (h.ext (Ext.new (L := []) hp) .nil), .new hp⟩
theorem new_lst {H0 H : Hp} {p : Addr} {vs : List V} {ds : List D} (h0 : H0 p = none) (hp : H p = none) (h : PuA H vs ds) : ∃ L, own (upd H p (.lst vs)) (.L ds) L (.ref p) ∧ ∀ a ∈ L, H0 a = none :=
  ⟨[p], ⟨p, vs, rfl, rfl, upd_same, h.ext (Ext.new (L := []) hp) .nil⟩, fun a z => by rw [List.mem_singleton.mp z]; exact h0⟩
/-! data that keep lists: what was made is odd -/
mutual
theorem own_da {S : List Addr} {H : Hp} : ∀ {m : M} {L : List Addr} {v : V} {d : D}, own H m L v → (∀ a ∈ L, a ∉ S) → m.dat = some d → Da K S H v d
  | .L ds, L, v, d, ⟨a, vs, e1, e2, h, p⟩, n, e => by
    cases e; subst e1 e2
    exact .lst ⟨h, n a (by simp)⟩ p.da
  | .LL ms, L, v, d, ⟨a, vs, C, e1, e2, e3, h, t⟩, n, e => by
    subst e1 e2
    unfold M.dat at e
    cases q : M.datA ms with
    | none => rw [q] at e; cases e
    | some ds =>
      rw [q] at e; cases e
      exact .lst ⟨h, n a (by simp)⟩ (ownA_da t (fun x z => n x (List.mem_cons_of_mem _ z)) q)
  | .DK _, _, _, _, _, _, e => by cases e
  | .FK _, _, _, _, _, _, e => by cases e
theorem ownA_da {S : List Addr} {H : Hp} : ∀ {ms : List M} {L : List Addr} {vs : List V} {ds : List D}, ownA H ms L vs → (∀ a ∈ L, a ∉ S) → M.datA ms = some ds → DaA K S H vs ds
  | [], _, _, _, ⟨_, e2⟩, _, e => by subst e2; cases e; exact .nil
  | m :: ms, L, vs, ds, ⟨C, D', v, ws, e1, e2, d, h, t⟩, n, e => by
    subst e1 e2
    unfold M.datA at e
    split at e
    · rename_i d ds' q1 q2
      cases e
      exact .cons (own_da h (fun a z => n a (List.mem_append_left _ z)) q1) (ownA_da t (fun a z => n a (List.mem_append_right _ z)) q2)
    · cases e
end
def Vl.od1 : Vl → Option D
  | .p d => some d
  | .o d => some d
  | .f m => m.dat
  | _ => none
def allO : List Vl → Option (List D)
  | [] => some []
  | r :: rest => match r.od1, allO rest with
    | some d, some ds => some (d :: ds)
    | _, _ => none
theorem VRA.allO {B : Bs} {A : List Addr} {H G0 : Hp} (there : ∀ a ∈ A ++ B.P ++ B.S0, G0 a ≠ none) : ∀ {rs : List Vl} {H0 : Hp} {vs : List V} {ds : List D}, (∀ a, H0 a = none → G0 a = none) → VRA K B A H H0 vs rs → allO rs = some ds → DaA K (A ++ B.P ++ B.S0) H vs ds
  | [], _, _, _, _, h, e => by cases h; cases e; exact .nil
  | r :: rs, H0, _, ds, g, h, e => by
    cases h with
    | cons h b t =>
      have h := h.vr
      unfold Nv.allO at e
      split at e
      · rename_i d ds' q1 q2
        cases e
        refine .cons ?_ (VRA.allO there (fun a z => g a (b a z)) t q2)
        cases r with
        | p d' => cases q1; exact Pu.da h
        | o d' => cases q1; exact h
        | f m =>
          obtain ⟨L, h1, h2⟩ := h
          exact own_da h1 (fun a z w => there a w (g a (h2 a z))) q1
        | _ => cases q1
      · cases e
def eTup (TA : WA) : WE := fun ρ Q Ex => TA ρ (fun rs => match allP rs with
  | some ds => (match Nat.ble ds.length 1000 with | true => Q (.p (.tuple ds)) | false => False)
  | none => match allO rs with
    | some ds => (match Nat.ble ds.length 1000 with | true => Q (.o (.tuple ds)) | false => False)
    | none => False) Ex
def eLst (TA : WA) : WE := fun ρ Q Ex => TA ρ (fun rs => match allP rs with
  | some ds => (match Nat.ble ds.length 1000 with | true => Q (.f (.L ds)) | false => False)
  | none => match allO rs with
    | some ds => (match Nat.ble ds.length 1000 with | true => Q (.o (.list ds)) | false => False)
    | none => False) Ex
theorem Rep.there {B : Bs} {A : List Addr} {H : Hp} {σ : L2.St} {ρ : Env'} (R : Rep K B A H σ ρ) : ∀ a ∈ A ++ B.P ++ B.S0, H a ≠ none := fun a z => by
  rcases List.mem_append.mp z with z | z
  · rcases List.mem_append.mp z with z | z
    · exact R.lsts.some z
    · exact R.pool.lsts.some z
  · exact fun w => R.s0 a z (R.sub w)
end
section
variable {Y : Cx} {X : Vx}
theorem ve_tup {es : List Expr} {t : WA} {pos : Pos} {x1 : Nat} (h : PA Y es (liftA X t)) : PE Y (.Tuple es x1 pos) (liftE X (eTup t)) :=
  peV (pe_tupZ h) fun σ H Q ⟨B, A, ρ, R, Po, Ex, h, xl, q⟩ => by
    refine ⟨B, A, ρ, R, _, Ex, h, xl, fun rs vs H1 p1 e1 k1 r1 => ?_⟩
    split at p1
    · rename_i ds e
      have pa := r1.allP e
      split at p1
      rotate_left
      · exact p1.elim
      rename_i small
      refine ⟨by rw [pa.len]; exact sl1000 (Nat.le_of_ble_eq_true small), fun p H' hp hn => ?_⟩
      obtain ⟨z1, z2⟩ := new_tup hp pa hn
      exact q _ _ H' p1 (e1.trans (z2.mono fun _ z => nomatch z)) (k1.ext z2 (by simp)) z1
    · split at p1
      · rename_i ds e
        have pa := r1.allO R.there (fun a z => z) e
        split at p1
        rotate_left
        · exact p1.elim
        rename_i small
        refine ⟨by rw [pa.len]; exact sl1000 (Nat.le_of_ble_eq_true small), fun p H' hp ⟨o, hod, hn⟩ => ?_⟩
        subst hn
        have e2 : Ext [] H1 (upd H1 p (.frz o (.tup vs))) := .new hp
        exact q _ _ _ p1 (e1.trans (e2.mono fun _ z => nomatch z)) (k1.ext e2 (by simp)) (.tup (.inl (.inr ⟨o, upd_same⟩)) (pa.ext e2 .nil (by simp)))
      · exact p1.elim
theorem ve_lst {es : List Expr} {t : WA} {pos : Pos} (h : PA Y es (liftA X t)) : PE Y (.List es pos) (liftE X (eLst t)) :=
  peV (pe_lst h) fun σ H Q ⟨B, A, ρ, R, Po, Ex, h, xl, q⟩ => by
    refine ⟨B, A, ρ, R, _, Ex, h, xl, fun rs vs H1 p1 e1 k1 r1 => ?_⟩
    split at p1
    · rename_i ds e
      have pa := r1.allP e
      split at p1
      rotate_left
      · exact p1.elim
      rename_i small
      refine ⟨by rw [pa.len]; exact sl1000 (Nat.le_of_ble_eq_true small), fun p hp => ?_⟩
      exact q _ _ _ p1 (e1.put2 hp) (k1.nw hp) (new_lst (pool_back k1 e1 hp) hp pa)
    · split at p1
      · rename_i ds e
        have pa := r1.allO R.there (fun a z => z) e
        split at p1
        rotate_left
        · exact p1.elim
        rename_i small
        refine ⟨by rw [pa.len]; exact sl1000 (Nat.le_of_ble_eq_true small), fun p hp => ?_⟩
        have e2 : Ext [] H1 (upd H1 p (.lst vs)) := .new hp
        exact q _ _ _ p1 (e1.put2 hp) (k1.nw hp) (.lst ⟨upd_same, fun z => R.there p z (pool_back k1 e1 hp)⟩ (pa.ext e2 .nil (by simp)))
      · exact p1.elim
/-- an empty list of lists -/
def eLst0 : WE := fun _ Q _ => Q (.f (.LL []))
theorem ve_lst0 {pos : Pos} : PE Y (.List [] pos) (liftE X eLst0) :=
  peV (pe_lst pa_nil) fun σ H Q ⟨B, A, ρ, R, Po, Ex, h, xl, q⟩ => by
    refine ⟨by show 0 ≤ sizeLine; decide, fun p hp => ?_⟩
    exact q _ _ _ h (.new hp) (R.pool.nw hp) ⟨[p], ⟨p, [], [], rfl, rfl, by simp, upd_same, rfl, rfl⟩, fun a z => by rw [List.mem_singleton.mp z]; exact hp⟩
end
end Nv
set_option Elab.async false
set_option linter.all false
set_option maxRecDepth 100000
/-! the value layer: statements -/
namespace Nv
open PySem PySem.Spec PyProof.Rows L2
/-- what is wanted behind a statement -/
structure DE where
  nx : Env' → Prop
  rt : Vl → Prop
  bk : Env' → Prop := fun _ => False
  ct : Env' → Prop := fun _ => False
abbrev WS := Env' → DE → Exn → Prop
/-- what stands for a result that leaves the def -/
def RR (K : PySem.W.Frag) (B : Bs) (H : Hp) (v : V) : Vl → Prop
  | .p d => Pu H v d
  | .o d => Da K (B.P ++ B.S0) H v d
  | .b _ => False
  | .k _ => False
  | .f m => ∃ L, own H m L v ∧ ∀ a ∈ L, B.H0 a = none
  | .pl => False
structure SLink (K : PySem.W.Frag) (B : Bs) (D : Ends) (E : DE) : Prop where
  nx : ∀ ρ A σ H, E.nx ρ → Rep K B A H σ ρ → D.nx σ H
  bk : ∀ ρ A σ H, E.bk ρ → Rep K B A H σ ρ → D.bk σ H
  ct : ∀ ρ A σ H, E.ct ρ → Rep K B A H σ ρ → D.ct σ H
  rt : ∀ r v H, E.rt r → Ext B.P B.H0 H → PoolOk B.PP H → RR K B H v r → D.rt v H
def liftS (X : Vx) (T : WS) : TS := fun D σ H => ∃ B A ρ, Rep X.K B A H σ ρ ∧ ∃ E Ex, T ρ E Ex ∧ XLink X B Ex ∧ SLink X.K B D E
/-! ### slots are set -/
inductive SlOk (K : PySem.W.Frag) (B : Bs) (T : List Addr) (H : Hp) : Option V → Sl → List Addr → Prop
  | un {o} : SlOk K B T H o .un []
  | im {v d} : Pu H v d → SlOk K B T H (some v) (.im d) []
  | od {v d} : Da K (T ++ B.S0) H v d → SlOk K B T H (some v) (.od d) []
  | rd {v m} : rm H T m v → SlOk K B T H (some v) (.rd m) []
  | mu {v m L} : own H m L v → SlOk K B T H (some v) (.mu m) L
  | pl {p l R} : B.P = p :: l :: R → SlOk K B T H (some (.ref p)) .pl []
  | pt {p l R TT} : B.P = p :: l :: R → B.PP.tt = TT → SlOk K B T H (some (.ref p)) (.pt TT) []
section
variable {K : PySem.W.Frag} {B : Bs} {A A' T X L : List Addr} {H H' H1 H2 : Hp} {σ : L2.St} {ρ : Env'} {o : Option V} {s : Sl}
theorem Rl.cons' (h : Rl K B T H σ ρ A) (k : SlOk K B T H o s L) (d : ∀ a ∈ L, a ∉ A) : Rl K B T H (o :: σ) (s :: ρ) (L ++ A) := by
  cases k with
  | un => exact .un h
  | im p => exact .im p h
  | od p => exact .od p h
  | rd p => exact .rd p h
  | mu p => exact .mu p d h
  | pl p => exact .pl p h
  | pt p t => exact .pt p t h
/-- a slot and the rest -/
theorem Rl.uncons {o : Option V} {s : Sl} (h : Rl K B T H (o :: σ) (s :: ρ) A) : ∃ L A', A = L ++ A' ∧ SlOk K B T H o s L ∧ (∀ a ∈ L, a ∉ A') ∧ Rl K B T H σ ρ A' := by
  cases h with
  | un h => exact ⟨[], A, rfl, .un, by simp, h⟩
  | im p h => exact ⟨[], A, rfl, .im p, by simp, h⟩
  | od p h => exact ⟨[], A, rfl, .od p, by simp, h⟩
  | rd p h => exact ⟨[], A, rfl, .rd p, by simp, h⟩
  | mu p d h => exact ⟨_, _, rfl, .mu p, d, h⟩
  | pl p h => exact ⟨[], A, rfl, .pl p, by simp, h⟩
  | pt p t h => exact ⟨[], A, rfl, .pt p t, by simp, h⟩
theorem Rl.put (k : SlOk K B T H o s L) : ∀ {σ : L2.St} {ρ : Env'} {A : List Addr} (i : Nat), Rl K B T H σ ρ A → (∀ a ∈ L, a ∉ A) → ∃ A', (∀ a ∈ A', a ∈ A ∨ a ∈ L) ∧ Rl K B T H (σ.set i o) (ρ.set i s) A'
  | [], [], A, i, h, d => ⟨A, fun a z => .inl z, h⟩
  | [], _ :: _, _, _, h, _ => by cases h
  | _ :: _, [], _, _, h, _ => by cases h
  | o' :: σ, s' :: ρ, A, 0, h, d => by
    obtain ⟨L', A', rfl, k', d', h'⟩ := h.uncons
    refine ⟨L ++ A', fun a z => (List.mem_append.mp z).elim .inr fun z => .inl (List.mem_append_right _ z), ?_⟩
    exact h'.cons' k fun a z w => d a z (List.mem_append_right _ w)
  | o' :: σ, s' :: ρ, A, i + 1, h, d => by
    obtain ⟨L', A', rfl, k', d', h'⟩ := h.uncons
    obtain ⟨A2, h2, h3⟩ := Rl.put k i h' fun a z w => d a z (List.mem_append_right _ w)
    refine ⟨L' ++ A2, fun a z => (List.mem_append.mp z).elim (fun z => .inl (List.mem_append_left _ z)) fun z => (h2 a z).imp (fun z => List.mem_append_right _ z) id, ?_⟩
    exact h3.cons' k' fun a z w => (h2 a w).elim (d' a z) fun w => d a w (List.mem_append_left _ z)
/-- what a slot owns is taken out of it -/
theorem Rl.take : ∀ {σ : L2.St} {ρ : Env'} {A : List Addr} {i : Nat} {m : M}, Rl K B T H σ ρ A → sg ρ i = .mu m → ∃ v L A', σ[i]? = some (some v) ∧ own H m L v ∧ (∀ a ∈ L, a ∉ A') ∧ (∀ a ∈ L, a ∈ A) ∧ (∀ a ∈ A', a ∈ A) ∧ Rl K B T H σ (ρ.set i .un) A'
  | _, [], _, _, _, _, e => by cases e
  | [], _ :: _, _, _, _, h, _ => by cases h
  | o :: σ, s :: ρ, A, 0, m, h, e => by
    have e : s = .mu m := e
    subst e
    obtain ⟨L, A', rfl, k, d, h'⟩ := h.uncons
    cases k with
    | mu p => exact ⟨_, L, A', rfl, p, d, fun a z => List.mem_append_left _ z, fun a z => List.mem_append_right _ z, .un h'⟩
  | o :: σ, s :: ρ, A, i + 1, m, h, e => by
    obtain ⟨L', A', rfl, k, d, h'⟩ := h.uncons
    obtain ⟨v, L, A2, h1, h2, h3, h4, h5, h6⟩ := Rl.take h' (i := i) e
    refine ⟨v, L, L' ++ A2, h1, h2, fun a z w => ?_, fun a z => List.mem_append_right _ (h4 a z), fun a z => (List.mem_append.mp z).elim (fun z => List.mem_append_left _ z) fun z => List.mem_append_right _ (h5 a z), h6.cons' k fun a z w => d a z (h5 a w)⟩
    rcases List.mem_append.mp w with w | w
    · exact d a w (h4 a z)
    · exact h3 a z w
/-- a slot is set, behind an expression that began at H -/
theorem Rep.put (R : Rep K B A H σ ρ) (e : Ext B.P H H1) (k : PoolOk B.PP H1) (i : Nat) (hs : SlOk K B (L ++ (A ++ B.P)) H1 o s L) (n : ∀ a ∈ L, H a = none) : ∃ A', Rep K B A' H1 (σ.set i o) (ρ.set i s) := by
  have r1 : Rl K B (L ++ (A ++ B.P)) H σ ρ A := R.rl.off fun a z => (List.mem_append.mp z).elim (fun z => .inr (n a z)) .inl
  have r2 : Rl K B (L ++ (A ++ B.P)) H1 σ ρ A := r1.ext e R.pool.lsts (fun a z => List.mem_append_right _ (List.mem_append_right _ z)) R.pnew
  obtain ⟨A', h1, h2⟩ := r2.put hs i fun a z w => R.lsts.some w (n a z)
  have sub : ∀ a ∈ A', a ∈ A ∨ H a = none := fun a z => (h1 a z).imp id (n a)
  refine ⟨A', h2.off fun a z => .inl ?_, R.ext.trans e, fun a z => (h1 a z).elim (R.new a) fun z => R.sub (n a z), k, R.pool0, R.s0, fun z hz => ?_⟩
  · rcases List.mem_append.mp z with z | z
    · exact (h1 a z).elim (fun z => List.mem_append_right _ (List.mem_append_left _ z)) fun z => List.mem_append_left _ z
    · exact List.mem_append_right _ (List.mem_append_right _ z)
  · exact z.ext (GR.off' (R.gh z hz) sub) e R.pool.lsts fun a w => List.mem_append_right _ w
/-- without what is owned there -/
theorem Rep.take {i : Nat} {m : M} (R : Rep K B A H σ ρ) (e : sg ρ i = .mu m) : ∃ v L A', σ[i]? = some (some v) ∧ own H m L v ∧ (∀ a ∈ L, a ∉ A') ∧ (∀ a ∈ L, a ∈ A) ∧ (∀ a ∈ A', a ∈ A) ∧ Rl K B (A ++ B.P) H σ (ρ.set i .un) A' := R.rl.take e
theorem Rep.anew (R : Rep K B A H σ ρ) : ∀ a ∈ A, a ∉ B.P := fun a z w => R.pnew a w z
theorem set_same {σ : L2.St} : ∀ {i : Nat} {v : V}, σ[i]? = some (some v) → σ.set i (some v) = σ := by
  intro i v h
  obtain ⟨hi, e⟩ := List.getElem?_eq_some_iff.mp h
  rw [← e, List.set_getElem_self]
theorem set_set' {α : Type} {l : List α} {i : Nat} {a b : α} : (l.set i a).set i b = l.set i b := by simp
/-- what slot i owns is written (and the pool may have turned before): its addresses and new ones -/
theorem Rep.wr {i : Nat} {m m' : M} {v : V} (R : Rep K B A H σ ρ) (e : sg ρ i = .mu m) (hv : σ[i]? = some (some v)) (kp : PoolOk B.PP H') (step : ∀ L, own H m L v → (∀ a ∈ L, a ∉ B.P) → ∃ X L', Ext X H H' ∧ (∀ a ∈ X, a ∈ L ∨ a ∈ B.P) ∧ own H' m' L' v ∧ ∀ a ∈ L', a ∈ L ∨ H a = none) :
    ∃ A', Rep K B A' H' σ (ρ.set i (.mu m')) := by
  obtain ⟨v', L, A2, h1, h2, h3, h4, h5, h6⟩ := R.take e
  rw [hv] at h1
  cases h1
  obtain ⟨X, L', x1, x2, x3, x4⟩ := step L h2 fun a z => R.anew a (h4 a z)
  have lX : Lsts X H := ((own_lsts h2).app R.pool.lsts).sub fun a z => List.mem_append.mpr (x2 a z)
  -- the others stand
  have r1 : Rl K B (L' ++ (A ++ B.P)) H σ (ρ.set i .un) A2 := h6.off fun a z => (List.mem_append.mp z).elim (fun z => (x4 a z).imp (fun z => List.mem_append_left _ (h4 a z)) id) .inl
  have r2 : Rl K B (L' ++ (A ++ B.P)) H' σ (ρ.set i .un) A2 := r1.ext x1 lX (fun a z => List.mem_append_right _ ((x2 a z).elim (fun z => List.mem_append_left _ (h4 a z)) fun z => List.mem_append_right _ z)) fun a z w => (x2 a z).elim (fun z => h3 a z w) fun z => R.pnew a z (h5 a w)
  obtain ⟨A', g1, g2⟩ := r2.put (o := some v) (s := .mu m') (L := L') (.mu x3) i fun a z w => (x4 a z).elim (fun z => h3 a z w) fun z => R.lsts.some (h5 a w) z
  rw [set_same hv, set_set'] at g2
  have sub : ∀ a ∈ A', a ∈ A ∨ H a = none := fun a z => (g1 a z).elim (fun z => .inl (h5 a z)) fun z => (x4 a z).imp (h4 a) id
  have eP : Ext B.P B.H0 H' := fun b u nb q => x1 b u (fun w => (x2 b w).elim (fun w => by
    have := R.new b (h4 b w)
    rw [q] at this
    cases this) nb) (R.ext b u nb q)
  refine ⟨A', g2.off fun a z => .inl ?_, eP, fun a z => (sub a z).elim (R.new a) R.sub, kp, R.pool0, R.s0, fun z hz => ?_⟩
  · rcases List.mem_append.mp z with z | z
    · exact (g1 a z).elim (fun z => List.mem_append_right _ (List.mem_append_left _ (h5 a z))) fun z => List.mem_append_left _ z
    · exact List.mem_append_right _ (List.mem_append_right _ z)
  · have q1 : GR B (L' ++ A) H z := GR.off' (R.gh z hz) fun a w => (List.mem_append.mp w).elim (fun w => (x4 a w).imp (h4 a) id) .inl
    have q2 : GR B (L' ++ A) H' z := z.ext q1 x1 lX fun a w => (x2 a w).elim (fun w => List.mem_append_left _ (List.mem_append_right _ (h4 a w))) fun w => List.mem_append_right _ w
    exact GR.off' q2 fun a w => .inl ((g1 a w).elim (fun w => List.mem_append_right _ (h5 a w)) fun w => List.mem_append_left _ w)
end
/-! ### blocks -/
section
variable {Y : Cx} {X : Vx}
theorem psV {st : Stmt} {t t' : TS} (h : PS Y st t) (w : ∀ D σ H, t' D σ H → t D σ H) : PS Y st t' := ⟨fun pins s σ H D I q => h.run pins s σ H D I (w D σ H q)⟩
theorem pssV {sts : List Stmt} {t t' : TS} (h : PSs Y sts t) (w : ∀ D σ H, t' D σ H → t D σ H) : PSs Y sts t' := ⟨fun pins s σ H D I q => h.run pins s σ H D I (w D σ H q)⟩
def sNil : WS := fun ρ E _ => E.nx ρ
def sSeq (T U : WS) : WS := fun ρ E Ex => T ρ { E with nx := fun ρ' => U ρ' E Ex } Ex
theorem vs_nil : PSs Y [] (liftS X sNil) := pssV pss_nil fun D σ H ⟨B, A, ρ, R, E, Ex, h, xl, l⟩ => l.nx ρ A σ H h R
theorem vs_cons {st : Stmt} {rest : List Stmt} {T U : WS} (h : PS Y st (liftS X T)) (k : PSs Y rest (liftS X U)) : PSs Y (st :: rest) (liftS X (sSeq T U)) := pssV (pss_cons h k) fun D σ H ⟨B, A, ρ, R, E, Ex, h, xl, l⟩ =>
  ⟨B, A, ρ, R, _, Ex, h, xl, fun ρ' A' σ' H' n R' => ⟨B, A', ρ', R', E, Ex, n, xl, l⟩, l.bk, l.ct, l.rt⟩
/-- a statement, then the rest, with a word between them -/
def sCut (T U : WS) : WS := fun ρ E Ex => ∃ Mid : Env' → Prop, T ρ { E with nx := Mid } Ex ∧ ∀ ρ', Mid ρ' → U ρ' E Ex
theorem vs_cut {st : Stmt} {rest : List Stmt} {T U : WS} (h : PS Y st (liftS X T)) (k : PSs Y rest (liftS X U)) : PSs Y (st :: rest) (liftS X (sCut T U)) := pssV (C8.pss_cut h k) fun D σ H ⟨B, A, ρ, R, E, Ex, ⟨Mid, h1, h2⟩, xl, l⟩ =>
  ⟨fun σ' H' => ∃ A' ρ', Rep X.K B A' H' σ' ρ' ∧ Mid ρ', ⟨B, A, ρ, R, _, Ex, h1, xl, fun ρ' A' σ' H' m R' => ⟨A', ρ', R', m⟩, l.bk, l.ct, l.rt⟩, fun σ' H' ⟨A', ρ', R', m⟩ => ⟨B, A', ρ', R', E, Ex, h2 ρ' m, xl, l⟩⟩
theorem vs_one {st : Stmt} {T : WS} (h : PS Y st (liftS X T)) : PSs Y [st] (liftS X T) := pss_one h
def sIf (c : WT) (T U : WS) : WS := fun ρ E Ex => c ρ (fun b => if b = true then T ρ E Ex else U ρ E Ex) Ex
theorem vs_if {c : Expr} {a b : List Stmt} {tc : WT} {T U : WS} {pos : Pos} (hc : PT Y c (liftT X tc)) (ha : PSs Y a (liftS X T)) (hb : PSs Y b (liftS X U)) : PS Y (.If c a b pos) (liftS X (sIf tc T U)) :=
  psV (ps_if hc ha hb) fun D σ H ⟨B, A, ρ, R, E, Ex, h, xl, l⟩ => by
    refine ⟨B, A, ρ, R, _, Ex, h, xl, fun c H1 p1 e1 k1 => ?_⟩
    cases c with
    | true =>
      rw [if_pos rfl] at p1 ⊢
      exact ⟨B, A, ρ, R.step e1 k1, E, Ex, p1, xl, l⟩
    | false =>
      rw [if_neg Bool.false_ne_true] at p1 ⊢
      exact ⟨B, A, ρ, R.step e1 k1, E, Ex, p1, xl, l⟩
def sPass : WS := fun ρ E _ => E.nx ρ
def sBreak : WS := fun ρ E _ => E.bk ρ
def sCont : WS := fun ρ E _ => E.ct ρ
theorem vs_pass {pos : Pos} : PS Y (.Pass pos) (liftS X sPass) := psV ps_pass fun D σ H ⟨B, A, ρ, R, E, Ex, h, xl, l⟩ => l.nx ρ A σ H h R
theorem vs_break {pos : Pos} : PS Y (.Break pos) (liftS X sBreak) := psV ps_break fun D σ H ⟨B, A, ρ, R, E, Ex, h, xl, l⟩ => l.bk ρ A σ H h R
theorem vs_continue {pos : Pos} : PS Y (.Continue pos) (liftS X sCont) := psV ps_continue fun D σ H ⟨B, A, ρ, R, E, Ex, h, xl, l⟩ => l.ct ρ A σ H h R
/-! ### return -/
theorem VR.rr {K : PySem.W.Frag} {B : Bs} {A : List Addr} {H0 H : Hp} {σ : L2.St} {ρ : Env'} {v : V} {r : Vl} (R : Rep K B A H0 σ ρ) (h : VR K B A H0 H v r) (n : ∀ m, r ≠ .b m ∧ r ≠ .k m ∧ r ≠ .pl) : RR K B H v r := by
  cases r with
  | p d => exact h
  | o d => exact Da.off (fun a z => .inl (by rcases List.mem_append.mp z with z | z <;> simp [z])) h
  | b m => exact absurd rfl (n m).1
  | k m => exact absurd rfl (n m).2.1
  | pl => exact absurd rfl (n (.L [])).2.2
  | f m =>
    obtain ⟨L, h1, h2⟩ := h
    exact ⟨L, h1, fun a z => R.sub (h2 a z)⟩
def sRet (T : WE) : WS := fun ρ E Ex => T ρ (fun r => match r with | .b _ => False | .k _ => False | .pl => False | r => E.rt r) Ex
theorem vs_ret {e : Expr} {T : WE} {pos : Pos} (he : PE Y e (liftE X T)) : PS Y (.Return (some e) pos) (liftS X (sRet T)) := psV (ps_ret he) fun D σ H ⟨B, A, ρ, R, E, Ex, h, xl, l⟩ => by
  refine ⟨B, A, ρ, R, _, Ex, h, xl, fun r v H1 p1 e1 k1 r1 => ?_⟩
  split at p1
  · exact p1.elim
  · exact p1.elim
  · exact p1.elim
  · rename_i h1 h2 h3
    exact l.rt _ v H1 p1 (R.ext.trans e1) k1 (r1.rr R fun m => ⟨fun z => h1 m z, fun z => h2 m z, fun z => h3 z⟩)
def sRetN : WS := fun _ E _ => E.rt (.p .none)
theorem vs_retN {pos : Pos} : PS Y (.Return none pos) (liftS X sRetN) := psV ps_retN fun D σ H ⟨B, A, ρ, R, E, Ex, h, xl, l⟩ => l.rt _ _ H h R.ext R.pool .non
/-- return of a name -/
def sRetV (i : Nat) : WS := fun ρ E _ => match sg ρ i with
  | .im d => E.rt (.p d)
  | .od d => E.rt (.o d)
  | .mu m => E.rt (.f m)
  | _ => False
theorem vs_retV {e : Expr} {i : Nat} {pos : Pos} (he : PE Y e (tVar i)) : PS Y (.Return (some e) pos) (liftS X (sRetV i)) := psV (ps_ret he) fun D σ H ⟨B, A, ρ, R, E, Ex, h, xl, l⟩ => by
  unfold sRetV at h
  split at h
  · rename_i d e
    obtain ⟨v, h1, h2⟩ := R.rl.get_im e
    exact ⟨v, h1, l.rt _ v H h R.ext R.pool h2⟩
  · rename_i d e
    obtain ⟨v, h1, h2⟩ := R.rl.get_od e
    exact ⟨v, h1, l.rt _ v H h R.ext R.pool (h2.off fun a z => .inl (by rcases List.mem_append.mp z with z | z <;> simp [z]))⟩
  · rename_i m e
    obtain ⟨v, L, h1, h2, h3⟩ := R.rl.get_mu e
    exact ⟨v, h1, l.rt _ v H h R.ext R.pool ⟨L, h2, fun a z => R.new a (h3 a z)⟩⟩
  · exact h.elim
/-! ### names set -/
def putS (ρ : Env') (i : Nat) (N : Env' → Prop) : Vl → Prop
  | .p d => N (ρ.set i (.im d))
  | .o d => N (ρ.set i (.od d))
  | .k m => N (ρ.set i (.rd m))
  | .f m => N (ρ.set i (.mu m))
  | .b _ => False
  | .pl => False
theorem Rep.putV {K : PySem.W.Frag} {B : Bs} {A : List Addr} {H H1 : Hp} {σ : L2.St} {ρ : Env'} {v : V} {r : Vl} {N : Env' → Prop} (R : Rep K B A H σ ρ) (e : Ext B.P H H1) (k : PoolOk B.PP H1) (h : VR K B A H H1 v r) (i : Nat) (n : putS ρ i N r) :
    ∃ ρ' A', N ρ' ∧ Rep K B A' H1 (σ.set i (some v)) ρ' := by
  cases r with
  | p d =>
    obtain ⟨A', R'⟩ := R.put (L := []) e k i (.im h) (by simp)
    exact ⟨_, A', n, R'⟩
  | o d =>
    obtain ⟨A', R'⟩ := R.put (L := []) e k i (.od h) (by simp)
    exact ⟨_, A', n, R'⟩
  | b m => exact n.elim
  | pl => exact n.elim
  | k m =>
    obtain ⟨A', R'⟩ := R.put (L := []) e k i (.rd h) (by simp)
    exact ⟨_, A', n, R'⟩
  | f m =>
    obtain ⟨L, h1, h2⟩ := h
    obtain ⟨A', R'⟩ := R.put (L := L) e k i (.mu h1) h2
    exact ⟨_, A', n, R'⟩
def sSet (i : Nat) (T : WE) : WS := fun ρ E Ex => T ρ (putS ρ i E.nx) Ex
theorem lift_set {i : Nat} {T : WE} : ∀ D σ H, liftS X (sSet i T) D σ H → tAsg (liftE X T) (gName i) D σ H := by
  rintro D σ H ⟨B, A, ρ, R, E, Ex, h, xl, l⟩
  refine ⟨B, A, ρ, R, _, Ex, h, xl, fun r v H1 p1 e1 k1 r1 => ?_⟩
  obtain ⟨ρ', A', n, R'⟩ := R.putV e1 k1 r1 i p1
  exact l.nx ρ' A' _ H1 n R'
theorem vs_set {i : Nat} {x : Str} {e : Expr} {T : WE} {pos pos' : Pos} (hN : Y.N.Nodup) (hi : Y.N[i]? = some x) (hx : Loc Y.env.scope x) (he : PE Y e (liftE X T)) (hs : swapsWith e (some (.Name x pos')) pos.line Y.env = pure false := by rfl) (hf : Y.fn x = true ∨ Y.env.scope.names.lookup x = some .local := by first | exact .inl rfl | exact .inr rfl | assumption) :
    PS Y (.Assign [.Name x pos'] e pos) (liftS X (sSet i T)) := psV (ps_set hN hi hx he hs hf) lift_set
/-- the same of a number, a bool, a text -/
def sSetS (i : Nat) (T : WE) : WS := fun ρ E Ex => T ρ (fun r => putS ρ i E.nx r.s) Ex
theorem lift_setS {i : Nat} {T : WE} : ∀ D σ H, liftS X (sSetS i T) D σ H → tAsg (liftE X T) (gName i) D σ H := by
  rintro D σ H ⟨B, A, ρ, R, E, Ex, h, xl, l⟩
  refine ⟨B, A, ρ, R, _, Ex, h, xl, fun r v H1 p1 e1 k1 r1 => ?_⟩
  obtain ⟨ρ', A', n, R'⟩ := R.putV e1 k1 r1.s i p1
  exact l.nx ρ' A' _ H1 n R'
theorem vs_setS {i : Nat} {x : Str} {e : Expr} {T : WE} {pos pos' : Pos} (hN : Y.N.Nodup) (hi : Y.N[i]? = some x) (hx : Loc Y.env.scope x) (he : PE Y e (liftE X T)) (hs : swapsWith e (some (.Name x pos')) pos.line Y.env = pure false := by rfl) (hf : Y.fn x = true ∨ Y.env.scope.names.lookup x = some .local := by first | exact .inl rfl | exact .inr rfl | assumption) :
    PS Y (.Assign [.Name x pos'] e pos) (liftS X (sSetS i T)) := psV (ps_set hN hi hx he hs hf) lift_setS
/-- y = x: what x owned is y's -/
def sMove (i j : Nat) : WS := fun ρ E _ => match sg ρ j with
  | .im d => E.nx (ρ.set i (.im d))
  | .od d => E.nx (ρ.set i (.od d))
  | .rd m => E.nx (ρ.set i (.rd m))
  | .mu m => E.nx ((ρ.set j .un).set i (.mu m))
  | _ => False
theorem sg_set_ne {ρ : Env'} {i j : Nat} {s : Sl} (h : j ≠ i) : sg (ρ.set j s) i = sg ρ i := by
  induction ρ generalizing i j with
  | nil => rfl
  | cons a r ih =>
    rcases j with _ | j
    · rcases i with _ | i
      · exact absurd rfl h
      · rfl
    · rcases i with _ | i
      · rfl
      · exact ih (fun z => h (by rw [z]))
theorem lift_move {i j : Nat} : ∀ D σ H, liftS X (sMove i j) D σ H → tAsg (tVar j) (gName i) D σ H := by
  rintro D σ H ⟨B, A, ρ, R, E, Ex, h, xl, l⟩
  unfold sMove at h
  split at h
  · rename_i d e
    obtain ⟨v, h1, h2⟩ := R.rl.get_im e
    obtain ⟨A', R'⟩ := R.put (L := []) .refl R.pool i (.im h2) (by simp)
    exact ⟨v, h1, l.nx _ A' _ H h R'⟩
  · rename_i d e
    obtain ⟨v, h1, h2⟩ := R.rl.get_od e
    obtain ⟨A', R'⟩ := R.put (L := []) .refl R.pool i (.od h2) (by simp)
    exact ⟨v, h1, l.nx _ A' _ H h R'⟩
  · rename_i d e
    obtain ⟨v, h1, h2⟩ := R.rl.get_rd e
    obtain ⟨A', R'⟩ := R.put (L := []) .refl R.pool i (.rd h2) (by simp)
    exact ⟨v, h1, l.nx _ A' _ H h R'⟩
  · rename_i m e
    obtain ⟨v, L, A2, h1, h2, h3, h4, h5, h6⟩ := R.take e
    obtain ⟨A', g1, g2⟩ := h6.put (o := some v) (s := .mu m) (L := L) (.mu h2) i h3
    have sub : ∀ a ∈ A', a ∈ A := fun a z => (g1 a z).elim (h5 a) (h4 a)
    refine ⟨v, h1, l.nx _ A' _ H h ⟨g2.off fun a z => .inl ?_, R.ext, fun a z => R.new a (sub a z), R.pool, R.pool0, R.s0, fun z hz => GR.off' (R.gh z hz) fun a w => .inl (sub a w)⟩⟩
    rcases List.mem_append.mp z with z | z
    · exact List.mem_append_left _ (sub a z)
    · exact List.mem_append_right _ z
  · exact h.elim
theorem vs_move {i j : Nat} {x : Str} {e : Expr} {pos pos' : Pos} (hN : Y.N.Nodup) (hi : Y.N[i]? = some x) (hx : Loc Y.env.scope x) (he : PE Y e (tVar j)) (hs : swapsWith e (some (.Name x pos')) pos.line Y.env = pure false := by rfl) (hf : Y.fn x = true ∨ Y.env.scope.names.lookup x = some .local := by first | exact .inl rfl | exact .inr rfl | assumption) :
    PS Y (.Assign [.Name x pos'] e pos) (liftS X (sMove i j)) := psV (ps_set hN hi hx he hs hf) lift_move
/-- a list that is only read from here on -/
theorem Rep.freeze {K : PySem.W.Frag} {B : Bs} {A : List Addr} {H : Hp} {σ : L2.St} {ρ : Env'} {i : Nat} {m : M} (R : Rep K B A H σ ρ) (e : sg ρ i = .mu m) : ∃ A', Rep K B A' H σ (ρ.set i (.rd m)) := by
  obtain ⟨v, L, A2, h1, h2, h3, h4, h5, h6⟩ := R.take e
  have h7 : Rl K B (A2 ++ B.P) H σ (ρ.set i .un) A2 := h6.off fun a z => .inl ((List.mem_append.mp z).elim (fun z => List.mem_append_left _ (h5 a z)) fun z => List.mem_append_right _ z)
  have h8 : rm H (A2 ++ B.P) m v := h2.rm fun a z w => (List.mem_append.mp w).elim (h3 a z) (R.anew a (h4 a z))
  obtain ⟨A', g1, g2⟩ := h7.put (o := some v) (s := .rd m) (L := []) (.rd h8) i (by simp)
  rw [set_same h1, set_set'] at g2
  have sub : ∀ a ∈ A', a ∈ A2 := fun a z => (g1 a z).elim id fun z => nomatch z
  refine ⟨A', g2.off fun a z => .inl ?_, R.ext, fun a z => R.new a (h5 a (sub a z)), R.pool, R.pool0, R.s0, fun z hz => GR.off' (R.gh z hz) fun a w => .inl (h5 a (sub a w))⟩
  rcases List.mem_append.mp z with z | z
  · exact List.mem_append_left _ (sub a z)
  · exact List.mem_append_right _ z
def sFz (i : Nat) (T : WS) : WS := fun ρ E Ex => match sg ρ i with
  | .mu m => T (ρ.set i (.rd m)) E Ex
  | _ => T ρ E Ex
theorem vs_fz {st : Stmt} {T : WS} (i : Nat) (h : PS Y st (liftS X T)) : PS Y st (liftS X (sFz i T)) := psV h fun D σ H ⟨B, A, ρ, R, E, Ex, h, xl, l⟩ => by
  unfold sFz at h
  split at h
  · rename_i m e
    obtain ⟨A', R'⟩ := R.freeze e
    exact ⟨B, A', _, R', E, Ex, h, xl, l⟩
  · exact ⟨B, A, ρ, R, E, Ex, h, xl, l⟩
/-- a statement of an expression -/
def sExpr (T : WE) : WS := fun ρ E Ex => T ρ (fun _ => E.nx ρ) Ex
theorem vs_expr {e : Expr} {T : WE} {pos : Pos} (he : PE Y e (liftE X T)) (hs : swapsWith e none pos.line Y.env = pure false := by rfl) : PS Y (.Expr e pos) (liftS X (sExpr T)) := psV (ps_expr he hs) fun D σ H ⟨B, A, ρ, R, E, Ex, h, xl, l⟩ =>
  ⟨B, A, ρ, R, _, Ex, h, xl, fun r v H1 p1 e1 k1 r1 => l.nx ρ A σ H1 p1 (R.step e1 k1)⟩
/-- x += e -/
def sAug (i : Nat) (g : Int → Int → Int) (T : WE) : WS := fun ρ E Ex => match sg ρ i with
  | .im (.int x) => T ρ (fun r => match r with | .p (.int y) => E.nx (ρ.set i (.im (.int (g x y)))) | _ => False) Ex
  | _ => False
theorem vs_aug {st : Stmt} {i : Nat} {T : WE} {g : Int → Int → Int} (hd : PS Y st (tAug i (liftE X T) (ipI g))) : PS Y st (liftS X (sAug i g T)) := psV hd fun D σ H ⟨B, A, ρ, R, E, Ex, h, xl, l⟩ => by
  unfold sAug at h
  split at h
  · rename_i n e
    obtain ⟨v, h1, h2⟩ := R.rl.get_im e
    cases h2
    refine ⟨_, h1, B, A, ρ, R, _, Ex, h, xl, fun r v H1 p1 e1 k1 r1 => ?_⟩
    split at p1
    · cases r1
      refine ⟨_, _, rfl, rfl, ?_⟩
      obtain ⟨A', R'⟩ := R.put (L := []) e1 k1 i (.im (.int _)) (by simp)
      exact l.nx _ A' _ H1 p1 R'
    · exact p1.elim
  · exact h.elim
/-! ### while -/
def sWhile (c : WT) (T : WS) : WS := fun ρ E Ex => ∃ W : Nat → Env' → Prop, (∃ m, W m ρ) ∧ ∀ m ρ', W m ρ' → c ρ' (fun b => if b = true then T ρ' { E with nx := fun ρ2 => ∃ m', m' < m ∧ W m' ρ2, ct := fun ρ2 => ∃ m', m' < m ∧ W m' ρ2, bk := E.nx } Ex else E.nx ρ') Ex
theorem vs_while {c : Expr} {body : List Stmt} {tc : WT} {T : WS} {pos : Pos} (hp : PassesOwn (model Y.prog Y.w) Y.A Y.env Y.xe) (hc : PT Y c (liftT X tc)) (hb : PSs Y body (liftS X T)) : PS Y (.While c body [] pos) (liftS X (sWhile tc T)) :=
  psV (ps_while hp hc hb) fun D σ H ⟨B, A, ρ, R, E, Ex, ⟨W, ⟨m0, w0⟩, turn⟩, xl, l⟩ => by
    refine ⟨fun m σ' H' => ∃ A' ρ', Rep X.K B A' H' σ' ρ' ∧ W m ρ', ⟨m0, A, ρ, R, w0⟩, ?_⟩
    rintro m σ1 H1 ⟨A1, ρ1, R1, w1⟩
    refine ⟨B, A1, ρ1, R1, _, Ex, turn m ρ1 w1, xl, fun b H2 p2 e2 k2 => ?_⟩
    cases b with
    | true =>
      rw [if_pos rfl] at p2 ⊢
      refine ⟨fun σ' H' => ∃ m', m' < m ∧ ∃ A' ρ', Rep X.K B A' H' σ' ρ' ∧ W m' ρ', fun σ' H' z => z, B, A1, ρ1, R1.step e2 k2, _, Ex, p2, xl, ?_, ?_, ?_, ?_⟩
      · rintro ρ' A' σ' H' ⟨m', hm, w'⟩ R'
        exact ⟨m', hm, A', ρ', R', w'⟩
      · exact fun ρ' A' σ' H' n R' => l.nx ρ' A' σ' H' n R'
      · rintro ρ' A' σ' H' ⟨m', hm, w'⟩ R'
        exact ⟨m', hm, A', ρ', R', w'⟩
      · exact l.rt
    | false =>
      rw [if_neg Bool.false_ne_true] at p2 ⊢
      exact l.nx ρ1 A1 σ1 H2 p2 (R1.step e2 k2)
end
end Nv
set_option Elab.async false
set_option linter.all false
set_option maxRecDepth 100000
/-! the value layer: lists that are written -/
namespace Nv
open PySem PySem.Spec PyProof.Rows L2
section
variable {Y : Cx} {X : Vx} {K : PySem.W.Frag}
theorem ownA_snoc {H : Hp} {m : M} {v : V} {L2 : List Addr} (k : own H m L2 v) : ∀ {ms : List M} {B : List Addr} {vs : List V}, ownA H ms B vs → (∀ a ∈ B, a ∉ L2) → ownA H (ms ++ [m]) (B ++ L2) (vs ++ [v])
  | [], B, vs, h, _ => by
    obtain ⟨rfl, rfl⟩ := h
    exact ⟨L2, [], v, [], by simp, rfl, by simp, k, rfl, rfl⟩
  | m' :: ms, B, vs, h, n => by
    obtain ⟨B1, C, u, ws, rfl, rfl, h3, h4, h5⟩ := h
    have t := ownA_snoc k h5 fun a z => n a (List.mem_append_right _ z)
    refine ⟨B1, C ++ L2, u, ws ++ [v], by simp, rfl, fun a z w => ?_, h4, t⟩
    rcases List.mem_append.mp w with w | w
    · exact h3 a z w
    · exact n a (List.mem_append_left _ z) w
theorem ownA_len {H : Hp} : ∀ {ms : List M} {B : List Addr} {vs : List V}, ownA H ms B vs → vs.length = ms.length
  | [], _, _, h => by obtain ⟨_, rfl⟩ := h; rfl
  | _ :: _, _, _, h => by
    obtain ⟨_, _, _, _, _, rfl, _, _, t⟩ := h
    rw [List.length_cons, List.length_cons, ownA_len t]
/-- l.append(e) -/
def sAppend (i : Nat) (T : WE) : WS := fun ρ E Ex => match sg ρ i with
  | .mu (.L ds) => T ρ (fun r => match r.s with | .p d => ds.length < sizeLine ∧ E.nx (ρ.set i (.mu (.L (ds ++ [d])))) | _ => False) Ex
  | .mu (.LL ms) => T ρ (fun r => match r with | .f m => ms.length < sizeLine ∧ E.nx (ρ.set i (.mu (.LL (ms ++ [m])))) | _ => False) Ex
  | _ => False
theorem one_notP {P : List Addr} {a : Addr} (h : a ∉ P) : ∀ b ∈ P, b ∉ [a] := fun b z w => h (by rw [← List.mem_singleton.mp w]; exact z)
theorem ext_two {P : List Addr} {a : Addr} {H H1 H2 : Hp} (e1 : Ext P H H1) (e2 : Ext [a] H1 H2) : Ext ([a] ++ P) H H2 := fun b o n q => e2 b o (fun z => n (List.mem_append_left _ z)) (e1 b o (fun z => n (List.mem_append_right _ z)) q)
theorem lift_append {i : Nat} {T : WE} : ∀ D σ H, liftS X (sAppend i T) D σ H → (tDrop (tBM K "list" rAppend (tVar i) (tCons (liftE X T) tNil))) D σ H := by
  rintro D σ H ⟨B, A, ρ, R, E, Ex, h, xl, l⟩
  unfold sAppend at h
  split at h
  · rename_i ds em
    obtain ⟨v, L, h1, ⟨a, vs, rfl, rfl, ha, hp⟩, h3⟩ := R.rl.get_mu em
    refine ⟨_, h1, .inl ⟨rfl, vs, .inl (.inl ha)⟩, B, A, ρ, R, _, Ex, h, xl, fun r y H1 p1 e1 k1 r1 => ?_⟩
    have r1 := r1.s
    split at p1
    · rename_i d er
      rw [er] at r1
      have aP : a ∉ B.P := R.anew a (h3 a (by simp))
      have ha1 := e1 _ _ aP ha
      have hp1 := hp.ext e1 R.pool.lsts
      refine ⟨a, vs, y, rfl, rfl, ha1, by rw [hp.len]; exact p1.1, ?_⟩
      have e2 : Ext [a] H1 (upd H1 a (.lst (vs ++ [y]))) := .wr (by simp)
      obtain ⟨A', R'⟩ := R.wr (H' := upd H1 a (.lst (vs ++ [y]))) (m' := .L (ds ++ [d])) em h1 (k1.ext e2 (one_notP aP) (noX_l ha1)) fun L ho nP => by
        obtain ⟨a', vs', e', rfl, ha', hp'⟩ := ho
        cases e'
        exact ⟨[a] ++ B.P, [a], ext_two e1 e2, fun b z => List.mem_append.mp z, ⟨a, vs ++ [y], rfl, rfl, upd_same, (hp1.append (.cons r1 .nil)).ext e2 (one_lst ha1)⟩, fun b z => .inl z⟩
      exact l.nx _ A' σ _ p1.2 R'
    · exact p1.elim
  · rename_i ms em
    obtain ⟨v, L, h1, ⟨a, vs, C, rfl, rfl, hn, ha, hp⟩, h3⟩ := R.rl.get_mu em
    refine ⟨_, h1, .inl ⟨rfl, vs, .inl (.inl ha)⟩, B, A, ρ, R, _, Ex, h, xl, fun r y H1 p1 e1 k1 r1 => ?_⟩
    split at p1
    · rename_i m
      obtain ⟨L2, hL2, nL2⟩ := r1
      have aP : a ∉ B.P := R.anew a (h3 a (by simp))
      have ha1 := e1 _ _ aP ha
      refine ⟨a, vs, y, rfl, rfl, ha1, by rw [ownA_len hp]; exact p1.1, ?_⟩
      have e2 : Ext [a] H1 (upd H1 a (.lst (vs ++ [y]))) := .wr (by simp)
      obtain ⟨A', R'⟩ := R.wr (H' := upd H1 a (.lst (vs ++ [y]))) (m' := .LL (ms ++ [m])) em h1 (k1.ext e2 (one_notP aP) (noX_l ha1)) fun L ho nP => by
        obtain ⟨a', vs', C', e', rfl, hn', ha', hp'⟩ := ho
        cases e'
        rw [ha] at ha'
        cases ha'
        have hp1 := hp'.ext e1 R.pool.lsts fun b z => nP b (List.mem_cons_of_mem _ z)
        have offA : a ∉ L2 := fun z => by
          have := nL2 a z
          rw [ha] at this
          cases this
        have offC : ∀ b ∈ C', b ∉ L2 := fun b z w => (ownA_lsts hp').some z (nL2 b w)
        refine ⟨[a] ++ B.P, a :: (C' ++ L2), ext_two e1 e2, fun b z => (List.mem_append.mp z).imp (fun z => by rw [List.mem_singleton.mp z]; simp) id, ?_, fun b z => ?_⟩
        · refine ⟨a, vs ++ [y], C' ++ L2, rfl, rfl, fun z => (List.mem_append.mp z).elim hn' offA, upd_same, ?_⟩
          refine ownA.ext e2 (one_lst ha1) (ownA_snoc hL2 hp1 offC) fun b z w => ?_
          rw [List.mem_singleton.mp w] at z
          exact (List.mem_append.mp z).elim hn' offA
        · rcases List.mem_cons.mp z with rfl | z
          · exact .inl (by simp)
          · exact (List.mem_append.mp z).imp (fun z => List.mem_cons_of_mem _ z) (nL2 b)
      exact l.nx _ A' σ _ p1.2 R'
    · exact p1.elim
  · exact h.elim
theorem vs_append {st : Stmt} {i : Nat} {T : WE} (h : PS Y st (tDrop (tBM K "list" rAppend (tVar i) (tCons (liftE X T) tNil)))) : PS Y st (liftS X (sAppend i T)) := psV h lift_append
/-- l.append(x): what x owned is the list's -/
def sAppendV (i j : Nat) : WS := fun ρ E Ex => match sg ρ i, sg ρ j with
  | .mu (.LL ms), .mu m => i ≠ j ∧ ms.length < sizeLine ∧ E.nx ((ρ.set j .un).set i (.mu (.LL (ms ++ [m]))))
  | _, _ => False
theorem lift_appendV {i j : Nat} : ∀ D σ H, liftS X (sAppendV i j) D σ H → (tDrop (tBM K "list" rAppend (tVar i) (tCons (tVar j) tNil))) D σ H := by
  rintro D σ H ⟨B, A, ρ, R, E, Ex, h, xl, l⟩
  unfold sAppendV at h
  split at h
  · rename_i ms m em ej
    obtain ⟨ij, hlen, hnx⟩ := h
    obtain ⟨y, L2, A2, j1, j2, j3, j4, j5, j6⟩ := R.take ej
    have em2 : sg (ρ.set j .un) i = .mu (.LL ms) := by rw [sg_set_ne (Ne.symm ij)]; exact em
    obtain ⟨v, L, A3, h1, ⟨a, vs, C, rfl, rfl, hn, ha, hp⟩, h3, h4, h5, h6⟩ := j6.take em2
    refine ⟨_, h1, .inl ⟨rfl, vs, .inl (.inl ha)⟩, _, j1, a, vs, y, rfl, rfl, ha, by rw [ownA_len hp]; exact hlen, ?_⟩
    have offA : a ∉ L2 := fun z => j3 a z (h4 a (by simp))
    have offC : ∀ b ∈ C, b ∉ L2 := fun b z w => j3 b w (h4 b (List.mem_cons_of_mem _ z))
    have e2 : Ext [a] H (upd H a (.lst (vs ++ [y]))) := .wr (by simp)
    have aA : a ∈ A := j5 a (h4 a (by simp))
    have aP : a ∉ B.P := R.anew a aA
    have r1 := h6.ext e2 (one_lst ha) (fun b z => by rw [List.mem_singleton.mp z]; exact List.mem_append_left _ aA) fun b z w => h3 b (by rw [List.mem_singleton.mp z]; simp) w
    have w1 : own (upd H a (.lst (vs ++ [y]))) (.LL (ms ++ [m])) (a :: (C ++ L2)) (.ref a) := by
      refine ⟨a, vs ++ [y], C ++ L2, rfl, rfl, fun z => (List.mem_append.mp z).elim hn offA, upd_same, ?_⟩
      refine ownA.ext e2 (one_lst ha) (ownA_snoc j2 hp offC) fun b z w => ?_
      rw [List.mem_singleton.mp w] at z
      exact (List.mem_append.mp z).elim hn offA
    have w2 : ∀ b ∈ a :: (C ++ L2), b ∉ A3 := by
      intro b z w
      rcases List.mem_cons.mp z with rfl | z
      · exact h3 b (by simp) w
      · exact (List.mem_append.mp z).elim (fun z => h3 b (List.mem_cons_of_mem _ z) w) fun z => j3 b z (h5 b w)
    obtain ⟨A', g1, g2⟩ := r1.put (.mu w1) i w2
    rw [set_same h1, set_set'] at g2
    have sub : ∀ b ∈ A', b ∈ A := fun b z => by
      rcases g1 b z with z | z
      · exact j5 b (h5 b z)
      · rcases List.mem_cons.mp z with rfl | z
        · exact aA
        · exact (List.mem_append.mp z).elim (fun z => j5 b (h4 b (List.mem_cons_of_mem _ z))) (j4 b)
    refine l.nx _ A' σ _ hnx ⟨g2.off fun b z => .inl ((List.mem_append.mp z).elim (fun z => List.mem_append_left _ (sub b z)) fun z => List.mem_append_right _ z), fun b u nb q => e2 b u (fun w => ?_) (R.ext b u nb q), fun b z => R.new b (sub b z), R.pool.ext e2 (one_notP aP) (noX_l ha), R.pool0, R.s0, fun z hz => ?_⟩
    · have := R.new b (by rw [List.mem_singleton.mp w]; exact aA)
      rw [q] at this
      cases this
    · exact GR.off' (z.ext (R.gh z hz) e2 (one_lst ha) fun b w => by rw [List.mem_singleton.mp w]; exact List.mem_append_left _ aA) fun b w => .inl (sub b w)
  · exact h.elim
theorem vs_appendV {st : Stmt} {i j : Nat} (h : PS Y st (tDrop (tBM K "list" rAppend (tVar i) (tCons (tVar j) tNil)))) : PS Y st (liftS X (sAppendV i j)) := psV h lift_appendV
/-- l.extend(e), e a new list -/
def sExtend (i : Nat) (T : WE) : WS := fun ρ E Ex => match sg ρ i with
  | .mu (.L ds) => T ρ (fun r => match r with | .f (.L es) => ds.length + es.length ≤ sizeLine ∧ E.nx (ρ.set i (.mu (.L (ds ++ es)))) | _ => False) Ex
  | _ => False
theorem lift_extend {i : Nat} {T : WE} : ∀ D σ H, liftS X (sExtend i T) D σ H → (tDrop (tBM K "list" rExtend (tVar i) (tCons (liftE X T) tNil))) D σ H := by
  rintro D σ H ⟨B, A, ρ, R, E, Ex, h, xl, l⟩
  unfold sExtend at h
  split at h
  · rename_i ds em
    obtain ⟨v, L, h1, ⟨a, vs, rfl, rfl, ha, hp⟩, h3⟩ := R.rl.get_mu em
    refine ⟨_, h1, .inl ⟨rfl, vs, .inl (.inl ha)⟩, B, A, ρ, R, _, Ex, h, xl, fun r y H1 p1 e1 k1 r1 => ?_⟩
    split at p1
    · rename_i es
      have aP : a ∉ B.P := R.anew a (h3 a (by simp))
      have ha1 := e1 _ _ aP ha
      have hp1 := hp.ext e1 R.pool.lsts
      obtain ⟨L2, ⟨b, ws, rfl, rfl, hb, hq⟩, _⟩ := r1
      refine ⟨a, b, vs, ws, rfl, rfl, ha1, hb, by rw [hp.len, hq.len]; exact p1.1, ?_⟩
      have e2 : Ext [a] H1 (upd H1 a (.lst (vs ++ ws))) := .wr (by simp)
      obtain ⟨A', R'⟩ := R.wr (H' := upd H1 a (.lst (vs ++ ws))) (m' := .L (ds ++ es)) em h1 (k1.ext e2 (one_notP aP) (noX_l ha1)) fun L ho nP => by
        obtain ⟨a', vs', e', rfl, ha', hp'⟩ := ho
        cases e'
        exact ⟨[a] ++ B.P, [a], ext_two e1 e2, fun b z => List.mem_append.mp z, ⟨a, vs ++ ws, rfl, rfl, upd_same, (hp1.append hq).ext e2 (one_lst ha1)⟩, fun b z => .inl z⟩
      exact l.nx _ A' σ _ p1.2 R'
    · exact p1.elim
  · exact h.elim
theorem vs_extend {st : Stmt} {i : Nat} {T : WE} (h : PS Y st (tDrop (tBM K "list" rExtend (tVar i) (tCons (liftE X T) tNil)))) : PS Y st (liftS X (sExtend i T)) := psV h lift_extend
/-- l[k] = e -/
def sStore (i : Nat) (TI TV : WE) : WS := fun ρ E Ex => match sg ρ i with
  | .mu (.L ds) => TV ρ (fun r => TI ρ (fun q => match r.s, q.s with | .p d, .p (.int n) => ∃ j, ixN ds.length n = some j ∧ E.nx (ρ.set i (.mu (.L (ds.set j d)))) | _, _ => False) Ex) Ex
  | _ => False
theorem lift_store {i : Nat} {TI TV : WE} : ∀ D σ H, liftS X (sStore i TI TV) D σ H → (tAsg (liftE X TV) (gSub (tVar i) (liftE X TI) rSetL)) D σ H := by
  rintro D σ H ⟨B, A, ρ, R, E, Ex, h, xl, l⟩
  unfold sStore at h
  split at h
  · rename_i ds em
    obtain ⟨v, L, h1, ⟨a, vs, rfl, rfl, ha, hp⟩, h3⟩ := R.rl.get_mu em
    refine ⟨B, A, ρ, R, _, Ex, h, xl, fun r y H1 p1 e1 k1 r1 => ⟨_, h1, B, A, ρ, R.step e1 k1, _, Ex, p1, xl, fun q z H2 p2 e2 k2 r2 => ?_⟩⟩
    have r1 := r1.s
    have r2 := r2.s
    split at p2
    · rename_i d n er eq
      rw [er] at r1
      rw [eq] at r2
      cases r2
      obtain ⟨j, hj, p2⟩ := p2
      have e12 := e1.trans e2
      have aP : a ∉ B.P := R.anew a (h3 a (by simp))
      have ha2 := e12 _ _ aP ha
      have hp2 := hp.ext e12 R.pool.lsts
      have y2 := Pu.ext e2 k1.lsts r1
      refine ⟨a, vs, n, j, rfl, rfl, ha2, by rw [hp.len]; exact hj, ?_⟩
      have e3 : Ext [a] H2 (upd H2 a (.lst (vs.set j y))) := .wr (by simp)
      obtain ⟨A', R'⟩ := R.wr (H' := upd H2 a (.lst (vs.set j y))) (m' := .L (ds.set j d)) em h1 (k2.ext e3 (one_notP aP) (noX_l ha2)) fun L ho nP => by
        obtain ⟨a', vs', e', rfl, ha', hp'⟩ := ho
        cases e'
        exact ⟨[a] ++ B.P, [a], ext_two e12 e3, fun b z => List.mem_append.mp z, ⟨a, vs.set j y, rfl, rfl, upd_same, (hp2.set y2 j).ext e3 (one_lst ha2)⟩, fun b z => .inl z⟩
      exact l.nx _ A' σ _ p2 R'
    · exact p2.elim
  · exact h.elim
theorem vs_store {st : Stmt} {i : Nat} {TI TV : WE} (h : PS Y st (tAsg (liftE X TV) (gSub (tVar i) (liftE X TI) rSetL))) : PS Y st (liftS X (sStore i TI TV)) := psV h lift_store
end
/-! ### dicts that are written -/
section
variable {Y : Cx} {X : Vx} {K : PySem.W.Frag}
/-- a key -/
def keyD : D → Option Key
  | .int i => some (.inl i)
  | .str x => some (.inr x)
  | _ => none
theorem keyD_ok {H : Hp} {v : V} {d : D} {k : Key} (h : Pu H v d) (e : keyD d = some k) : v = kV k := by
  cases h <;> cases e <;> rfl
def valD {α : Type} (kvs : List (Key × α)) (k : Key) : Option α := (kvs.find? fun kv => decide (kv.1 = k)).map (·.2)
def putD {α : Type} (kvs : List (Key × α)) (k : Key) (v : α) : List (Key × α) :=
  if (kvs.any fun kv => decide (kv.1 = k)) = true then kvs.map (fun kv => if kv.1 = k then (kv.1, v) else kv) else kvs ++ [(k, v)]
theorem keys_any {α β : Type} {ks : List (Key × α)} {kvs : List (Key × β)} (h : ks.map (·.1) = kvs.map (·.1)) (k : Key) : (ks.any fun kv => decide (kv.1 = k)) = kvs.any fun kv => decide (kv.1 = k) := by
  have e1 : (ks.any fun kv => decide (kv.1 = k)) = (ks.map (·.1)).any fun x => decide (x = k) := by rw [List.any_map]; rfl
  have e2 : (kvs.any fun kv => decide (kv.1 = k)) = (kvs.map (·.1)).any fun x => decide (x = k) := by rw [List.any_map]; rfl
  rw [e1, e2, h]
theorem dk_val {H : Hp} : ∀ {ks : List (Key × V)} {kvs : List (Key × D)} {k : Key}, ks.map (·.1) = kvs.map (·.1) → PuA H (ks.map (·.2)) (kvs.map (·.2)) → (∀ d, valD kvs k = some d → ∃ v, valV ks k = some v ∧ Pu H v d) ∧ (valD kvs k = none → valV ks k = none)
  | [], [], _, _, _ => ⟨fun d z => (nomatch z), fun _ => rfl⟩
  | (a, v) :: ks, (b, d) :: kvs, k, h, p => by
    simp only [List.map_cons, List.cons.injEq] at h
    obtain ⟨rfl, h⟩ := h
    cases p with
    | cons p1 p2 =>
      obtain ⟨i1, i2⟩ := dk_val (k := k) h p2
      unfold valD valV
      rw [List.find?_cons, List.find?_cons]
      by_cases e : a = k
      · simp only [e, decide_true]
        exact ⟨fun d' z => by cases z; exact ⟨v, rfl, p1⟩, fun z => by cases z⟩
      · simp only [e, decide_false]
        exact ⟨i1, i2⟩
theorem dk_put {H : Hp} {ks : List (Key × V)} {kvs : List (Key × D)} {k : Key} {v : V} {d : D} (h : ks.map (·.1) = kvs.map (·.1)) (p : PuA H (ks.map (·.2)) (kvs.map (·.2))) (q : Pu H v d) : (putK ks k v).map (·.1) = (putD kvs k d).map (·.1) ∧ PuA H ((putK ks k v).map (·.2)) ((putD kvs k d).map (·.2)) := by
  unfold putK putD
  rw [keys_any h k]
  split
  · have : ∀ {ks : List (Key × V)} {kvs : List (Key × D)}, ks.map (·.1) = kvs.map (·.1) → PuA H (ks.map (·.2)) (kvs.map (·.2)) → (ks.map (fun kv => if kv.1 = k then (kv.1, v) else kv)).map (·.1) = (kvs.map (fun kv => if kv.1 = k then (kv.1, d) else kv)).map (·.1) ∧ PuA H ((ks.map (fun kv => if kv.1 = k then (kv.1, v) else kv)).map (·.2)) ((kvs.map (fun kv => if kv.1 = k then (kv.1, d) else kv)).map (·.2)) := by
      intro ks
      induction ks with
      | nil =>
        intro kvs h p
        cases kvs with
        | nil => exact ⟨rfl, .nil⟩
        | cons _ _ => cases h
      | cons a ks ih =>
        intro kvs h p
        cases kvs with
        | nil => cases h
        | cons b kvs =>
          simp only [List.map_cons, List.cons.injEq] at h
          cases p with
          | cons p1 p2 =>
            obtain ⟨i1, i2⟩ := ih h.2 p2
            simp only [List.map_cons]
            rw [← h.1]
            by_cases e : a.1 = k
            · rw [if_pos e, if_pos e]
              exact ⟨by rw [i1], .cons q i2⟩
            · rw [if_neg e, if_neg e]
              exact ⟨by rw [h.1, i1], .cons p1 i2⟩
    exact this h p
  · refine ⟨by rw [List.map_append, List.map_append, h]; rfl, ?_⟩
    rw [List.map_append, List.map_append]
    exact p.append (.cons q .nil)
/-- d[k] = e -/
def sDPut' (i : Nat) (TI TV : WE) : WS := fun ρ E Ex => match sg ρ i with
  | .mu (.DK kvs) => TV ρ (fun r => TI ρ (fun q => match r.s, q.s with | .p d, .p e => ∃ k, keyD e = some k ∧ kvs.length < sizeLine ∧ E.nx (ρ.set i (.mu (.DK (putD kvs k d)))) | _, _ => False) Ex) Ex
  | _ => False
theorem lift_dput {i : Nat} {TI TV : WE} : ∀ D σ H, liftS X (sDPut' i TI TV) D σ H → (sDPut (tVar i) (liftE X TI) (liftE X TV)) D σ H := by
  rintro D σ H ⟨B, A, ρ, R, E, Ex, h, xl, l⟩
  unfold sDPut' at h
  split at h
  · rename_i kvs em
    obtain ⟨v, L, h1, ⟨a, ks, rfl, rfl, ha, hk, hp⟩, h3⟩ := R.rl.get_mu em
    refine ⟨B, A, ρ, R, _, Ex, h, xl, fun r y H1 p1 e1 k1 r1 => ⟨_, h1, B, A, ρ, R.step e1 k1, _, Ex, p1, xl, fun q z H2 p2 e2 k2 r2 => ?_⟩⟩
    have r1 := r1.s
    have r2 := r2.s
    split at p2
    · rename_i d e er eq
      rw [er] at r1
      rw [eq] at r2
      obtain ⟨k, hkey, hlen, p2⟩ := p2
      have ez := keyD_ok r2 hkey
      subst ez
      have e12 := e1.trans e2
      have aP : a ∉ B.P := R.anew a (h3 a (by simp))
      have ha2 := e12 _ _ aP ha
      have hp2 := hp.ext e12 R.pool.lsts
      have y2 := Pu.ext e2 k1.lsts r1
      have lk : ks.length = kvs.length := by have := congrArg List.length hk; simpa using this
      refine ⟨a, _, rfl, .inl ⟨ks, k, ha2, rfl, by rw [lk]; exact hlen, rfl⟩, ?_⟩
      have e3 : Ext [a] H2 (upd H2 a (.dK (putK ks k y))) := .wr (by simp)
      obtain ⟨A', R'⟩ := R.wr (H' := upd H2 a (.dK (putK ks k y))) (m' := .DK (putD kvs k d)) em h1 (k2.ext e3 (one_notP aP) (noX_d ha2)) fun L ho nP => by
        obtain ⟨a', vs', e', rfl, ha', hk', hp'⟩ := ho
        cases e'
        obtain ⟨q1, q2⟩ := dk_put (k := k) hk hp2 y2
        exact ⟨[a] ++ B.P, [a], ext_two e12 e3, fun b z => List.mem_append.mp z, ⟨a, _, rfl, rfl, upd_same, q1, q2.ext e3 (one_dk ha2)⟩, fun b z => .inl z⟩
      exact l.nx _ A' σ _ p2 R'
    · exact p2.elim
  · exact h.elim
theorem vs_dput {st : Stmt} {i : Nat} {TI TV : WE} (h : PS Y st (sDPut (tVar i) (liftE X TI) (liftE X TV))) : PS Y st (liftS X (sDPut' i TI TV)) := psV h lift_dput
/-- d[k], k in d -/
def Vl.dk (r : Vl) : Option (List (Key × D)) := match r.m with | some (.DK kvs) => some kvs | some (.FK kvs) => some kvs | _ => none
theorem VR.dk {B : Bs} {A : List Addr} {H0 H : Hp} {v : V} {r : Vl} {kvs : List (Key × D)} (k0 : PoolOk B.PP H0) (h : VR K B A H0 H v r) (e : r.dk = some kvs) : ∃ a ks, v = .ref a ∧ Rd H a (.dK ks) ∧ ks.map (·.1) = kvs.map (·.1) ∧ PuA H (ks.map (·.2)) (kvs.map (·.2)) := by
  unfold Vl.dk at e
  split at e
  · rename_i hm
    cases e
    obtain ⟨a, ks, rfl, hr, _, hk, hp⟩ := h.m k0 hm
    exact ⟨a, ks, rfl, .inl hr, hk, hp⟩
  · rename_i hm
    cases e
    obtain ⟨a, o, ks, rfl, hr, _, hk, hp⟩ := h.m k0 hm
    exact ⟨a, ks, rfl, .inr ⟨o, hr⟩, hk, hp⟩
  · cases e
def eDGet (TD TI : WE) : WE := fun ρ Q Ex => TD ρ (fun r => TI ρ (fun q => match r.dk, q.s with | some kvs, .p e => ∃ k d, keyD e = some k ∧ valD kvs k = some d ∧ Q (.p d) | _, _ => False) Ex) Ex
def eDIn (neg : Bool) (TI TD : WE) : WE := fun ρ Q Ex => TI ρ (fun q => TD ρ (fun r => match r.dk, q.s with | some kvs, .p e => ∃ k, keyD e = some k ∧ Q (.p (.bool (if neg = true then !(valD kvs k).isSome else (valD kvs k).isSome))) | _, _ => False) Ex) Ex
theorem lift_dget {TD TI : WE} : ∀ σ H Q, liftE X (eDGet TD TI) σ H Q → tDGet (liftE X TD) (liftE X TI) σ H Q := by
  rintro σ H Q ⟨B, A, ρ, R, Po, Ex, h, xl, q⟩
  refine ⟨B, A, ρ, R, _, Ex, h, xl, fun r v H1 p1 e1 k1 r1 => ⟨B, A, ρ, R.step e1 k1, _, Ex, p1, xl, fun r2 v2 H2 p2 e2 k2 q2 => ?_⟩⟩
  have r1' := r1.ext e2 k1 R.pool
  have q2 := q2.s
  split at p2
  · rename_i kvs e hm eq
    rw [eq] at q2
    obtain ⟨k, d, hkey, hval, p2⟩ := p2
    obtain ⟨a, ks, rfl, hr, hk, hp⟩ := r1'.dk R.pool hm
    have ez := keyD_ok q2 hkey
    subst ez
    obtain ⟨v', h1, h2⟩ := (dk_val (k := k) hk hp).1 d hval
    exact ⟨a, v', rfl, .inl ⟨ks, k, hr, rfl, h1.symm⟩, q _ _ H2 p2 (e1.trans e2) k2 h2⟩
  · exact p2.elim
theorem dk_in {H : Hp} {ks : List (Key × V)} {kvs : List (Key × D)} {k : Key} (h : ks.map (·.1) = kvs.map (·.1)) (p : PuA H (ks.map (·.2)) (kvs.map (·.2))) : (valV ks k).isSome = (valD kvs k).isSome := by
  obtain ⟨h1, h2⟩ := dk_val (k := k) h p
  cases e : valD kvs k with
  | none => rw [h2 e]; rfl
  | some d => obtain ⟨v, hv, _⟩ := h1 d e; rw [hv]; rfl
theorem lift_din {TD TI : WE} : ∀ σ H Q, liftE X (eDIn false TI TD) σ H Q → tDIn (liftE X TI) (liftE X TD) σ H Q := by
  rintro σ H Q ⟨B, A, ρ, R, Po, Ex, h, xl, q⟩
  refine ⟨B, A, ρ, R, _, Ex, h, xl, fun r v H1 p1 e1 k1 r1 => ⟨B, A, ρ, R.step e1 k1, _, Ex, p1, xl, fun r2 v2 H2 p2 e2 k2 q2 => ?_⟩⟩
  have r1' := (r1.ext e2 k1 R.pool).s
  split at p2
  · rename_i kvs e hm eq
    rw [eq] at r1'
    obtain ⟨k, hkey, p2⟩ := p2
    obtain ⟨a, ks, rfl, hr, hk, hp⟩ := q2.dk k1 hm
    have ez := keyD_ok r1' hkey
    subst ez
    refine ⟨a, _, rfl, .inl ⟨ks, k, hr, rfl, rfl⟩, ?_⟩
    rw [dk_in hk hp]
    exact q _ _ H2 p2 (e1.trans e2) k2 (.bl _)
  · exact p2.elim
theorem lift_dnotin {TD TI : WE} : ∀ σ H Q, liftE X (eDIn true TI TD) σ H Q → tDNotIn (liftE X TI) (liftE X TD) σ H Q := by
  rintro σ H Q ⟨B, A, ρ, R, Po, Ex, h, xl, q⟩
  refine ⟨B, A, ρ, R, _, Ex, h, xl, fun r v H1 p1 e1 k1 r1 => ⟨B, A, ρ, R.step e1 k1, _, Ex, p1, xl, fun r2 v2 H2 p2 e2 k2 q2 => ?_⟩⟩
  have r1' := (r1.ext e2 k1 R.pool).s
  split at p2
  · rename_i kvs e hm eq
    rw [eq] at r1'
    obtain ⟨k, hkey, p2⟩ := p2
    obtain ⟨a, ks, rfl, hr, hk, hp⟩ := q2.dk k1 hm
    have ez := keyD_ok r1' hkey
    subst ez
    refine ⟨a, _, rfl, .inl ⟨ks, k, hr, rfl, rfl⟩, ?_⟩
    rw [dk_in hk hp]
    exact q _ _ H2 p2 (e1.trans e2) k2 (.bl _)
  · exact p2.elim
theorem ve_dget {o i : Expr} {TD TI : WE} {pos : Pos} (hu : Y.A.units + 1 < cLine) (ho : PE Y o (liftE X TD)) (hi : PE Y i (liftE X TI)) (hs : NoSl i) : PE Y (.Subscript o i pos) (liftE X (eDGet TD TI)) := peV (pe_dget hu ho hi hs) lift_dget
theorem ve_din {o i : Expr} {TD TI : WE} {pos : Pos} (hu : Y.A.units + 1 < cLine) (hi : PE Y i (liftE X TI)) (ho : PE Y o (liftE X TD)) (hb : behindInMarks .In o = false := by rfl) : PE Y (.Compare i [.In] [o] pos) (liftE X (eDIn false TI TD)) := peV (pe_cmp (pc_din hu hi ho) hb) lift_din
theorem ve_dnotin {o i : Expr} {TD TI : WE} {pos : Pos} (hu : Y.A.units + 1 < cLine) (hi : PE Y i (liftE X TI)) (ho : PE Y o (liftE X TD)) (hb : behindInMarks .NotIn o = false := by rfl) : PE Y (.Compare i [.NotIn] [o] pos) (liftE X (eDIn true TI TD)) := peV (pe_cmp (pc_dnotin hu hi ho) hb) lift_dnotin
theorem lift_tB {T : WE} : ∀ σ H Q, liftT X (tBo T) σ H Q → tB (liftE X T) σ H Q := by
  rintro σ H Q ⟨B, A, ρ, R, Po, Ex, h, xl, q⟩
  refine ⟨B, A, ρ, R, _, Ex, h, xl, fun r v H1 p1 e1 k1 r1 => ?_⟩
  split at p1
  · cases r1
    exact ⟨_, rfl, q _ H1 p1 e1 k1⟩
  · exact p1.elim
theorem tB_mono {t t' : TE} (w : ∀ σ H Q, t' σ H Q → t σ H Q) : ∀ σ H Q, tB t' σ H Q → tB t σ H Q := fun σ H Q h => w σ H _ h
theorem vt_din {o i : Expr} {TD TI : WE} {pos : Pos} (hu : Y.A.units + 1 < cLine) (hi : PE Y i (liftE X TI)) (ho : PE Y o (liftE X TD)) (hb : behindInMarks .In o = false := by rfl) : PT Y (.Compare i [.In] [o] pos) (liftT X (tBo (eDIn false TI TD))) := ptW (pt_cmp (pc_din hu hi ho) hb) fun σ H Q h => tB_mono lift_din σ H Q (lift_tB σ H Q h)
theorem vt_dnotin {o i : Expr} {TD TI : WE} {pos : Pos} (hu : Y.A.units + 1 < cLine) (hi : PE Y i (liftE X TI)) (ho : PE Y o (liftE X TD)) (hb : behindInMarks .NotIn o = false := by rfl) : PT Y (.Compare i [.NotIn] [o] pos) (liftT X (tBo (eDIn true TI TD))) := ptW (pt_cmp (pc_dnotin hu hi ho) hb) fun σ H Q h => tB_mono lift_dnotin σ H Q (lift_tB σ H Q h)
/-- {} -/
def eDNew : WE := fun _ Q _ => Q (.f (.DK []))
theorem ve_dnew {pos : Pos} : PE Y (.Dict [] [] pos) (liftE X eDNew) := peV pe_dnewK fun σ H Q ⟨B, A, ρ, R, Po, Ex, h, xl, q⟩ p hp =>
  q _ _ _ h (.new hp) (R.pool.nw hp) ⟨[p], ⟨p, [], rfl, rfl, upd_same, rfl, .nil⟩, fun a z => by rw [List.mem_singleton.mp z]; exact hp⟩
end
end Nv
set_option Elab.async false
set_option linter.all false
set_option maxRecDepth 100000
/-! the value layer: what is walked; for; comprehensions -/
namespace Nv
open PySem PySem.Spec PyProof.Rows L2
/-- what a walk gives at a turn: a thing, or a pair that is new -/
inductive Iv where
  | one (r : Vl) | two (a b : Vl)
abbrev WI := Env' → (List Iv → Prop) → Exn → Prop
abbrev WG := Iv → Env' → (Env' → Prop) → Prop
abbrev WGs := List Vl → Env' → (Env' → Prop) → Prop
def IVr (K : PySem.W.Frag) (S0 T : List Addr) (H : Hp) (v : V) : Vl → Prop
  | .p d => Pu H v d
  | .o d => Da K (T ++ S0) H v d
  | .k m => rm H T m v
  | _ => False
def IR (K : PySem.W.Frag) (S0 T : List Addr) (H : Hp) (x : V) : Iv → Prop
  | .one r => IVr K S0 T H x r
  | .two a b => ∃ t va vb, x = .ref t ∧ SqT K H t [va, vb] ∧ IVr K S0 T H va a ∧ IVr K S0 T H vb b
def IW (K : PySem.W.Frag) (S0 : List Addr) (items : List Iv) (J : It) (Z : List Gh) : Prop := ∃ G Y, Walk J items.length G Y ∧ (∀ T H2, (∀ z ∈ Z, z.pr T H2) → G H2) ∧
  ∀ i T H2 x H3, (∀ z ∈ Z, z.pr T H2) → i < items.length → Y i H2 x H3 → Ext [] H2 H3 ∧ ∃ it, items[i]? = some it ∧ IR K S0 T H3 x it
def liftI (X : Vx) (T : WI) : TI := fun σ H R => ∃ B A ρ, Rep X.K B A H σ ρ ∧ ∃ Po Ex, T ρ Po Ex ∧ XLink X B Ex ∧ ∀ items J Z H', Po items → Ext B.P H H' → PoolOk B.PP H' → (∀ z ∈ Z, GR B A H' z) → IW X.K B.S0 items J Z → R J H'
def liftG (X : Vx) (G : WG) (js : List Nat) : TG := fun x σ H Q => ∃ B A ρ it, Rep X.K B A H σ ρ ∧ IR X.K B.S0 (A ++ B.P) H x it ∧ ∃ Po, G it ρ Po ∧ ∀ ρ' A' σ', Po ρ' → (∀ a ∈ A', a ∈ A) → Rep X.K B A' H σ' ρ' → (∀ vs : List Nat, (∀ j ∈ js, j ∈ vs) → wipe σ' vs = wipe σ vs) → Q σ' H
def liftGs (X : Vx) (G : WGs) (js : List Nat) : TGs := fun xs σ H Q => ∃ B A ρ rs, Rep X.K B A H σ ρ ∧ Paired (IVr X.K B.S0 (A ++ B.P) H) xs rs ∧ ∃ Po, G rs ρ Po ∧ ∀ ρ' A' σ', Po ρ' → (∀ a ∈ A', a ∈ A) → Rep X.K B A' H σ' ρ' → (∀ vs : List Nat, (∀ j ∈ js, j ∈ vs) → wipe σ' vs = wipe σ vs) → Q σ' H
/-! ### what is kept of lists and tuples -/
def ghL (a : Addr) (vs : List V) (ds : List D) : Gh where
  pr T H := LsR T H a vs ∧ PuA H vs ds
  ext h e l s := ⟨⟨e _ _ (fun z => h.1.2 (s _ z)) h.1.1, h.1.2⟩, h.2.ext e l⟩
  off h f := ⟨⟨h.1.1, fun z => (f _ z).elim h.1.2 (some_ne h.1.1)⟩, h.2⟩
def ghLL (a : Addr) (vs : List V) (ms : List M) : Gh where
  pr T H := LsR T H a vs ∧ rmA H T ms vs
  ext h e l s := ⟨⟨e _ _ (fun z => h.1.2 (s _ z)) h.1.1, h.1.2⟩, rmA.ext e l s h.2⟩
  off h f := ⟨⟨h.1.1, fun z => (f _ z).elim h.1.2 (some_ne h.1.1)⟩, rmA.off f h.2⟩
def ghT (a : Addr) (vs : List V) (ds : List D) : Gh where
  pr _ H := TupZ H a vs ∧ PuA H vs ds
  ext h e l _ := ⟨e.tz l h.1, h.2.ext e l⟩
  off h _ := h
def ghO (K : PySem.W.Frag) (S0 : List Addr) (a : Addr) (vs : List V) (ds : List D) : Gh where
  pr T H := LsR T H a vs ∧ DaA K (T ++ S0) H vs ds
  ext h e l s := ⟨⟨e _ _ (fun z => h.1.2 (s _ z)) h.1.1, h.1.2⟩, h.2.ext e l fun a z => List.mem_append_left _ (s a z)⟩
  off h f := ⟨⟨h.1.1, fun z => (f _ z).elim h.1.2 (some_ne h.1.1)⟩, h.2.off fun a z => (List.mem_append.mp z).elim (fun z => (f a z).imp (fun z => List.mem_append_left _ z) id) fun z => .inl (List.mem_append_right _ z)⟩
def ghOT (K : PySem.W.Frag) (S0 : List Addr) (a : Addr) (vs : List V) (ds : List D) : Gh where
  pr T H := SqT K H a vs ∧ DaA K (T ++ S0) H vs ds
  ext h e l s := ⟨e.tup l h.1, h.2.ext e l fun a z => List.mem_append_left _ (s a z)⟩
  off h f := ⟨h.1, h.2.off fun a z => (List.mem_append.mp z).elim (fun z => (f a z).imp (fun z => List.mem_append_left _ z) id) fun z => .inl (List.mem_append_right _ z)⟩
/-- what is walked, by its values in turn -/
def Seqs (K : PySem.W.Frag) (S0 : List Addr) (rs : List Vl) (vs : List V) (z : Gh) : Prop := vs.length = rs.length ∧ ∀ (T : List Addr) (H : Hp) (i : Nat) (v : V), z.pr T H → vs[i]? = some v → ∃ r, rs[i]? = some r ∧ IVr K S0 T H v r
theorem seqs_L {K : PySem.W.Frag} {S0 : List Addr} {a : Addr} {vs : List V} {ds : List D} (h : vs.length = ds.length) : Seqs K S0 (ds.map .p) vs (ghL a vs ds) := ⟨by simpa using h, fun T H i v z e => by
  obtain ⟨d, h1, h2⟩ := z.2.get e
  exact ⟨.p d, by rw [List.getElem?_map, h1]; rfl, h2⟩⟩
theorem seqs_T {K : PySem.W.Frag} {S0 : List Addr} {a : Addr} {vs : List V} {ds : List D} (h : vs.length = ds.length) : Seqs K S0 (ds.map .p) vs (ghT a vs ds) := ⟨by simpa using h, fun T H i v z e => by
  obtain ⟨d, h1, h2⟩ := z.2.get e
  exact ⟨.p d, by rw [List.getElem?_map, h1]; rfl, h2⟩⟩
theorem DaA.get {K : PySem.W.Frag} {S : List Addr} {H : Hp} : ∀ {vs : List V} {ds : List D} {i : Nat} {v : V}, DaA K S H vs ds → vs[i]? = some v → ∃ d, ds[i]? = some d ∧ Da K S H v d
  | _, _, _, _, .nil, e => by simp at e
  | _, _, 0, _, .cons r _, e => by cases e; exact ⟨_, rfl, r⟩
  | _, _, i + 1, _, .cons _ t, e => by
    obtain ⟨d, h1, h2⟩ := DaA.get (i := i) t (by simpa using e)
    exact ⟨d, by simpa using h1, h2⟩
theorem seqs_O {K : PySem.W.Frag} {S0 : List Addr} {a : Addr} {vs : List V} {ds : List D} (h : vs.length = ds.length) : Seqs K S0 (ds.map .o) vs (ghO K S0 a vs ds) := ⟨by simpa using h, fun T H i v z e => by
  obtain ⟨d, h1, h2⟩ := z.2.get e
  exact ⟨.o d, by rw [List.getElem?_map, h1]; rfl, h2⟩⟩
theorem seqs_OT {K : PySem.W.Frag} {S0 : List Addr} {a : Addr} {vs : List V} {ds : List D} (h : vs.length = ds.length) : Seqs K S0 (ds.map .o) vs (ghOT K S0 a vs ds) := ⟨by simpa using h, fun T H i v z e => by
  obtain ⟨d, h1, h2⟩ := z.2.get e
  exact ⟨.o d, by rw [List.getElem?_map, h1]; rfl, h2⟩⟩
theorem rmA_get' {S : List Addr} {H : Hp} : ∀ {ms : List M} {vs : List V} {i : Nat} {v : V}, rmA H S ms vs → vs[i]? = some v → ∃ m, ms[i]? = some m ∧ rm H S m v
  | [], _, _, _, h, z => by unfold rmA at h; subst h; simp at z
  | m :: ms, _, 0, _, ⟨v, ws, e, h, t⟩, z => by subst e; cases z; exact ⟨m, rfl, h⟩
  | m :: ms, _, i + 1, _, ⟨v, ws, e, h, t⟩, z => by
    subst e
    obtain ⟨u, h1, h2⟩ := rmA_get' t (i := i) (by simpa using z)
    exact ⟨u, by simpa using h1, h2⟩
theorem seqs_LL {K : PySem.W.Frag} {S0 : List Addr} {a : Addr} {vs : List V} {ms : List M} (h : vs.length = ms.length) : Seqs K S0 (ms.map .k) vs (ghLL a vs ms) := ⟨by simpa using h, fun T H i v z e => by
  obtain ⟨d, h1, h2⟩ := rmA_get' z.2 e
  exact ⟨.k d, by rw [List.getElem?_map, h1]; rfl, h2⟩⟩
/-- a list, a tuple that is walked: its items -/
def Vl.lst : Vl → Option (List Vl)
  | .k (.L ds) => some (ds.map .p)
  | .f (.L ds) => some (ds.map .p)
  | .k (.LL ms) => some (ms.map .k)
  | .f (.LL ms) => some (ms.map .k)
  | .o (.list ds) => some (ds.map .o)
  | _ => none
def Vl.tpl : Vl → Option (List Vl)
  | .p (.tuple ds) => some (ds.map .p)
  | .o (.tuple ds) => some (ds.map .o)
  | _ => none
section
variable {K : PySem.W.Frag} {B : Bs} {A : List Addr} {H0 H : Hp} {v : V} {r : Vl} {σ : L2.St} {ρ : Env'} {rs : List Vl}
theorem VR.lst (R : Rep K B A H0 σ ρ) (h : VR K B A H0 H v r) (e : r.lst = some rs) : ∃ a vs z, v = .ref a ∧ GR B A H z ∧ (∀ T H', z.pr T H' → SqL K H' a vs) ∧ Seqs K B.S0 rs vs z := by
  have off : ∀ {L : List Addr}, (∀ a ∈ L, H0 a = none) → ∀ a ∈ L, a ∉ A ++ B.P := fun n a z w => (List.mem_append.mp w).elim (fun w => R.lsts.some w (n a z)) fun w => R.pool.lsts.some w (n a z)
  unfold Vl.lst at e
  split at e
  · rename_i ds
    cases e
    obtain ⟨a, vs, rfl, l, t⟩ := h
    exact ⟨a, vs, ghL a vs ds, rfl, ⟨l, t⟩, fun T H' z => .of z.1.1, seqs_L t.len⟩
  · rename_i ds
    cases e
    obtain ⟨L, h, n⟩ := h
    obtain ⟨a, vs, rfl, l, t⟩ := h.rm (off n)
    exact ⟨a, vs, ghL a vs ds, rfl, ⟨l, t⟩, fun T H' z => .of z.1.1, seqs_L t.len⟩
  · rename_i ms
    cases e
    obtain ⟨a, vs, rfl, l, t⟩ := h
    exact ⟨a, vs, ghLL a vs ms, rfl, ⟨l, t⟩, fun T H' z => .of z.1.1, seqs_LL (rmA_len t)⟩
  · rename_i ms
    cases e
    obtain ⟨L, h, n⟩ := h
    obtain ⟨a, vs, rfl, l, t⟩ := h.rm (off n)
    exact ⟨a, vs, ghLL a vs ms, rfl, ⟨l, t⟩, fun T H' z => .of z.1.1, seqs_LL (rmA_len t)⟩
  · rename_i ds
    cases e
    cases h with
    | lst l t => exact ⟨_, _, ghO K B.S0 _ _ ds, rfl, ⟨⟨l.1, fun z => l.2 (List.mem_append_left _ z)⟩, t⟩, fun T H' z => .of z.1.1, seqs_O t.len⟩
  · cases e
theorem VR.tpl (h : VR K B A H0 H v r) (e : r.tpl = some rs) : ∃ a vs z, v = .ref a ∧ GR B A H z ∧ (∀ T H', z.pr T H' → SqT K H' a vs) ∧ Seqs K B.S0 rs vs z := by
  unfold Vl.tpl at e
  split at e
  · rename_i ds
    cases e
    cases h with
    | tup l t => exact ⟨_, _, ghT _ _ ds, rfl, ⟨l, t⟩, fun T H' z => z.1.sq, seqs_T t.len⟩
  · rename_i ds
    cases e
    cases h with
    | tup l t => exact ⟨_, _, ghOT K B.S0 _ _ ds, rfl, ⟨l, t⟩, fun T H' z => z.1, seqs_OT t.len⟩
  · cases e
theorem iw_list {a : Addr} {vs : List V} {z : Gh} (h : ∀ T H', z.pr T H' → SqL K H' a vs) (s : Seqs K B.S0 rs vs z) : IW K B.S0 (rs.map .one) (Itl K a) [z] := by
  refine ⟨fun H => SqL K H a vs, YAt vs, ?_, fun T H2 q => h T H2 (q z (by simp)), ?_⟩
  · rw [List.length_map, ← s.1]
    exact walk_list
  · rintro i T H2 x H3 q hi ⟨rfl, hx⟩
    obtain ⟨r, h1, h2⟩ := s.2 T _ i x (q z (by simp)) hx
    exact ⟨.refl, .one r, by rw [List.getElem?_map, h1]; rfl, h2⟩
theorem iw_tup {a : Addr} {vs : List V} {z : Gh} (h : ∀ T H', z.pr T H' → SqT K H' a vs) (s : Seqs K B.S0 rs vs z) : IW K B.S0 (rs.map .one) (Itt K a) [z] := by
  refine ⟨fun H => SqT K H a vs, YAt vs, ?_, fun T H2 q => h T H2 (q z (by simp)), ?_⟩
  · rw [List.length_map, ← s.1]
    exact walk_tup
  · rintro i T H2 x H3 q hi ⟨rfl, hx⟩
    obtain ⟨r, h1, h2⟩ := s.2 T _ i x (q z (by simp)) hx
    exact ⟨.refl, .one r, by rw [List.getElem?_map, h1]; rfl, h2⟩
theorem IVr.ext {S0 T X : List Addr} {H H' : Hp} {v : V} {r : Vl} (h : IVr K S0 T H v r) (e : Ext X H H') (l : Lsts X H) (s : ∀ a ∈ X, a ∈ T) : IVr K S0 T H' v r := by
  cases r with
  | p d => exact Pu.ext e l h
  | o d => exact Da.ext e l (fun a z => List.mem_append_left _ (s a z)) h
  | k m => exact rm.ext e l s h
  | b m => exact h
  | f m => exact h
  | pl => exact h
theorem IVr.off {S0 T T' : List Addr} {H : Hp} {v : V} {r : Vl} (h : IVr K S0 T H v r) (f : ∀ a ∈ T', a ∈ T ∨ H a = none) : IVr K S0 T' H v r := by
  cases r with
  | p d => exact h
  | o d => exact Da.off (fun a z => (List.mem_append.mp z).elim (fun z => (f a z).imp (fun z => List.mem_append_left _ z) id) fun z => .inl (List.mem_append_right _ z)) h
  | k m => exact rm.off f h
  | b m => exact h
  | f m => exact h
  | pl => exact h
def pairs (as bs : List Vl) : List Iv := (as.zip bs).map fun q => .two q.1 q.2
def enums (as : List Vl) : List Iv := as.zipIdx.map fun q => .two (.p (.int (q.2 : Int))) q.1
theorem iw_pairs {J : It} {vs ws : List V} {z1 z2 : Gh} {as bs : List Vl} {G : Hp → Prop} (w : Walk J (min vs.length ws.length) G (YPair (fun i => vs[i]?) (fun i => ws[i]?))) (h : ∀ T H', z1.pr T H' → z2.pr T H' → G H') (s1 : Seqs K B.S0 as vs z1) (s2 : Seqs K B.S0 bs ws z2) : IW K B.S0 (pairs as bs) J [z1, z2] := by
  refine ⟨G, YPair (fun i => vs[i]?) (fun i => ws[i]?), ?_, fun T H2 q => h T H2 (q z1 (by simp)) (q z2 (by simp)), ?_⟩
  · unfold pairs
    rw [List.length_map, List.length_zip, ← s1.1, ← s2.1]
    exact w
  · rintro i T H2 x H3 q hi ⟨t, va, vb, rfl, ht, rfl, hv, hw⟩
    have e : Ext [] H2 (upd H2 t (.tup [va, vb])) := .new ht
    obtain ⟨a, h1, h2⟩ := s1.2 T _ i va (q z1 (by simp)) hv
    obtain ⟨b, h3, h4⟩ := s2.2 T _ i vb (q z2 (by simp)) hw
    refine ⟨e, .two a b, ?_, t, va, vb, rfl, .of upd_same, h2.ext e .nil (by simp), h4.ext e .nil (by simp)⟩
    unfold pairs
    rw [List.getElem?_map, (List.getElem?_zip_eq_some (z := (a, b))).mpr ⟨h1, h3⟩]
    rfl
theorem iw_enum {J : It} {vs : List V} {z1 : Gh} {as : List Vl} {G : Hp → Prop} (w : Walk J vs.length G (YPair (fun i => some (.int (i : Nat))) (fun i => vs[i]?))) (h : ∀ T H', z1.pr T H' → G H') (s1 : Seqs K B.S0 as vs z1) : IW K B.S0 (enums as) J [z1] := by
  refine ⟨G, YPair (fun i => some (.int (i : Nat))) (fun i => vs[i]?), ?_, fun T H2 q => h T H2 (q z1 (by simp)), ?_⟩
  · unfold enums
    rw [List.length_map, List.length_zipIdx, ← s1.1]
    exact w
  · rintro i T H2 x H3 q hi ⟨t, va, vb, rfl, ht, rfl, hv, hw⟩
    have e : Ext [] H2 (upd H2 t (.tup [va, vb])) := .new ht
    obtain ⟨a, h1, h2⟩ := s1.2 T _ i vb (q z1 (by simp)) hw
    cases hv
    refine ⟨e, .two (.p (.int i)) a, ?_, t, .int i, vb, rfl, .of upd_same, .int _, h2.ext e .nil (by simp)⟩
    unfold enums
    rw [List.getElem?_map, List.getElem?_zipIdx, h1]
    simp
end
/-! ### the iterators -/
theorem pi_enumK (K : PySem.W.Frag) {X : Cx} {e : Expr} {ta : TA} {p pos tpos : Pos} {elts : List Expr} {kk : Nat} (hg : Gl X "enumerate") (hm : X.mg "enumerate" = none) (ha : PA X [e] ta) (hs : starEach [e] X.env = [(false, eval e X.env)] := by rfl) (h : X.K = K := by rfl) : PI X (.Tuple elts kk tpos) (.Call (.Name "enumerate" p) [e] [] pos) (iEnum K ta) := by subst h; exact pi_enum hg hm ha hs
theorem pi_enumTK (K : PySem.W.Frag) {X : Cx} {e : Expr} {ta : TA} {p pos tpos : Pos} {elts : List Expr} {kk : Nat} (hg : Gl X "enumerate") (hm : X.mg "enumerate" = none) (ha : PA X [e] ta) (hs : starEach [e] X.env = [(false, eval e X.env)] := by rfl) (h : X.K = K := by rfl) : PI X (.Tuple elts kk tpos) (.Call (.Name "enumerate" p) [e] [] pos) (iEnumT K ta) := by subst h; exact pi_enumT hg hm ha hs
section
variable {Y : Cx} {X : Vx}
theorem piV {tg iter : Expr} {t t' : TI} (h : PI Y tg iter t) (w : ∀ σ H R, t' σ H R → t σ H R) : PI Y tg iter t' := ⟨fun pins s σ H R I q => h.run pins s σ H R I (w σ H R q)⟩
/-- a list or a tuple, walked -/
def iAny (K : PySem.W.Frag) (tl : TE) : TI := fun σ H R => tl σ H fun x H1 => ∃ a, x = .ref a ∧ (((∃ xs, SqL K H1 a xs) ∧ R (Itl K a) H1) ∨ ((∃ xs, SqT K H1 a xs) ∧ R (Itt K a) H1))
theorem pi_any {Z : Cx} {tg l : Expr} {tl : TE} (hl : PE Z l tl) : PI Z tg l (iAny Z.K tl) := by
  constructor
  intro pins s σ H R I h
  refine thn (hl.run pins s σ H _ I h) ?_
  rintro v s1 ⟨x, H1, I1, r1, a, rfl, q1⟩
  obtain rfl : v = Value.ref a := r1
  have own : ∀ c ∈ [s1.heap.objs.size], FpOk Z pins H1 c := fun c hc => by
    rw [List.mem_singleton.mp hc]
    exact I1.fpOk (Nat.le_refl _) (I1.hok.fresh (Nat.le_refl _))
  rcases q1 with ⟨⟨xs, hx⟩, q⟩ | ⟨⟨xs, hx⟩, q⟩
  · obtain ⟨its, _, pl, _⟩ := I1.list hx
    exact wpAny_pyIter_list pl.isList ⟨_, [s1.heap.objs.size], _, _, H1, rfl, I1.kept (t' := s1.toks) fun _ _ e => Heap.get?_push_of_some _ e, turn_list a _, ⟨_, Heap.get?_push_size _ rfl, rfl, rfl⟩, own, q⟩
  · obtain ⟨its, _, pl, _⟩ := I1.tuple hx
    exact wpAny_pyIter_tuple (show s1.heap.IsTuple a its.toArray from pl) ⟨_, [s1.heap.objs.size], _, _, H1, rfl, I1.kept (t' := s1.toks) fun _ _ e => Heap.get?_push_of_some _ e, turn_tuple a _, ⟨_, Heap.get?_push_size _ rfl, rfl, rfl⟩, own, q⟩
theorem pi_anyK (K : PySem.W.Frag) {Z : Cx} {tg l : Expr} {tl : TE} (hl : PE Z l tl) (h : Z.K = K := by rfl) : PI Z tg l (iAny K tl) := by subst h; exact pi_any hl
def Vl.seq : Vl → Option (List Vl)
  | .k (.L ds) => some (ds.map .p)
  | .f (.L ds) => some (ds.map .p)
  | .k (.LL ms) => some (ms.map .k)
  | .f (.LL ms) => some (ms.map .k)
  | .o (.list ds) => some (ds.map .o)
  | .p (.tuple ds) => some (ds.map .p)
  | .o (.tuple ds) => some (ds.map .o)
  | _ => none
theorem seq_or {r : Vl} {rs : List Vl} (h : r.seq = some rs) : r.lst = some rs ∨ r.tpl = some rs := by
  unfold Vl.seq at h
  split at h <;> first | (cases h; done) | (cases h; exact .inl rfl) | (cases h; exact .inr rfl)
def iSeq (T : WE) : WI := fun ρ Q Ex => T ρ (fun r => match r.seq with | some rs => Q (rs.map .one) | none => False) Ex
theorem vi_seq {tg e : Expr} {T : WE} (h : PI Y tg e (iAny X.K (liftE X T))) : PI Y tg e (liftI X (iSeq T)) := piV h fun σ H Q ⟨B, A, ρ, R, Po, Ex, h, xl, q⟩ => by
  refine ⟨B, A, ρ, R, _, Ex, h, xl, fun r v H1 p1 e1 k1 r1 => ?_⟩
  split at p1
  · rename_i rs er
    rcases seq_or er with er | er
    · obtain ⟨a, vs, z, rfl, g, hs, sq⟩ := r1.lst R er
      exact ⟨a, rfl, .inl ⟨⟨vs, hs _ _ g⟩, q _ _ [z] H1 p1 e1 k1 (by simpa using g) (iw_list (B := B) hs sq)⟩⟩
    · obtain ⟨a, vs, z, rfl, g, hs, sq⟩ := r1.tpl er
      exact ⟨a, rfl, .inr ⟨⟨vs, hs _ _ g⟩, q _ _ [z] H1 p1 e1 k1 (by simpa using g) (iw_tup (B := B) hs sq)⟩⟩
  · exact p1.elim
def iSeqL (T : WE) : WI := fun ρ Q Ex => T ρ (fun r => match r.lst with | some rs => Q (rs.map .one) | none => False) Ex
def iSeqT (T : WE) : WI := fun ρ Q Ex => T ρ (fun r => match r.tpl with | some rs => Q (rs.map .one) | none => False) Ex
theorem vi_list {tg e : Expr} {T : WE} (h : PI Y tg e (iList X.K (liftE X T))) : PI Y tg e (liftI X (iSeqL T)) := piV h fun σ H Q ⟨B, A, ρ, R, Po, Ex, h, xl, q⟩ => by
  refine ⟨B, A, ρ, R, _, Ex, h, xl, fun r v H1 p1 e1 k1 r1 => ?_⟩
  split at p1
  · rename_i rs er
    obtain ⟨a, vs, z, rfl, g, hs, sq⟩ := r1.lst R er
    exact ⟨a, rfl, ⟨vs, hs _ _ g⟩, q _ _ [z] H1 p1 e1 k1 (by simpa using g) (iw_list (B := B) hs sq)⟩
  · exact p1.elim
theorem vi_tup {tg e : Expr} {T : WE} (h : PI Y tg e (iTup X.K (liftE X T))) : PI Y tg e (liftI X (iSeqT T)) := piV h fun σ H Q ⟨B, A, ρ, R, Po, Ex, h, xl, q⟩ => by
  refine ⟨B, A, ρ, R, _, Ex, h, xl, fun r v H1 p1 e1 k1 r1 => ?_⟩
  split at p1
  · rename_i rs er
    obtain ⟨a, vs, z, rfl, g, hs, sq⟩ := r1.tpl er
    exact ⟨a, rfl, ⟨vs, hs _ _ g⟩, q _ _ [z] H1 p1 e1 k1 (by simpa using g) (iw_tup (B := B) hs sq)⟩
  · exact p1.elim
def rgI (lo : Int) (n : Nat) : List Iv := (List.range n).map fun i : Nat => .one (.p (.int (lo + (i : Int))))
theorem iw_range {K : PySem.W.Frag} {S0 : List Addr} {lo : Int} {n : Nat} : IW K S0 (rgI lo n) (Itr lo n) [] := by
  unfold rgI
  refine ⟨fun _ => True, YFn fun i => .int (lo + (i : Nat)), ?_, fun _ _ _ => trivial, ?_⟩
  · rw [List.length_map, List.length_range]
    exact walk_range
  · rintro i T H2 x H3 q hi ⟨rfl, rfl⟩
    rw [List.length_map, List.length_range] at hi
    exact ⟨.refl, .one (.p (.int (lo + (i : Int)))), by rw [List.getElem?_map, List.getElem?_range hi]; rfl, .int _⟩
def iRange1 (T : WA) : WI := fun ρ Q Ex => T ρ (fun rs => match rs with | [.p (.int n)] => (-(2 ^ 62) ≤ n ∧ n < 2 ^ 62) ∧ Q (rgI 0 n.toNat) | _ => False) Ex
def iRange2 (T : WA) : WI := fun ρ Q Ex => T ρ (fun rs => match rs with | [.p (.int m), .p (.int n)] => (-(2 ^ 62) ≤ m ∧ m < 2 ^ 62 ∧ -(2 ^ 62) ≤ n ∧ n < 2 ^ 62) ∧ Q (rgI m (n - m).toNat) | _ => False) Ex
theorem vi_range1 {tg e : Expr} {T : WA} (h : PI Y tg e (iRng1 (liftA X T))) : PI Y tg e (liftI X (iRange1 T)) := piV h fun σ H Q ⟨B, A, ρ, R, Po, Ex, h, xl, q⟩ => by
  refine ⟨B, A, ρ, R, _, Ex, h, xl, fun rs vs H1 p1 e1 k1 r1 => ?_⟩
  split at p1
  · rename_i n
    cases r1 with
    | cons a _ t =>
      cases a; cases t
      exact ⟨n, rfl, p1.1.1, p1.1.2, q _ _ [] H1 p1.2 e1 k1 (by simp) iw_range⟩
  · exact p1.elim
theorem vi_range2 {tg e : Expr} {T : WA} (h : PI Y tg e (iRng2 (liftA X T))) : PI Y tg e (liftI X (iRange2 T)) := piV h fun σ H Q ⟨B, A, ρ, R, Po, Ex, h, xl, q⟩ => by
  refine ⟨B, A, ρ, R, _, Ex, h, xl, fun rs vs H1 p1 e1 k1 r1 => ?_⟩
  split at p1
  · rename_i m n
    cases r1 with
    | cons a _ t =>
      cases a
      cases t with
      | cons b _ t =>
        cases b; cases t
        exact ⟨m, n, rfl, p1.1, q _ _ [] H1 p1.2 e1 k1 (by simp) iw_range⟩
  · exact p1.elim
def iEnumL (T : WA) : WI := fun ρ Q Ex => T ρ (fun rs => match rs with | [r] => (match r.lst with | some as => Q (enums as) | none => False) | _ => False) Ex
def iEnumT' (T : WA) : WI := fun ρ Q Ex => T ρ (fun rs => match rs with | [r] => (match r.tpl with | some as => Q (enums as) | none => False) | _ => False) Ex
theorem vi_enumL {tg e : Expr} {T : WA} (h : PI Y tg e (iEnum X.K (liftA X T))) : PI Y tg e (liftI X (iEnumL T)) := piV h fun σ H Q ⟨B, A, ρ, R, Po, Ex, h, xl, q⟩ => by
  refine ⟨B, A, ρ, R, _, Ex, h, xl, fun rs vs H1 p1 e1 k1 r1 => ?_⟩
  split at p1
  · rename_i r
    cases r1 with
    | cons a _ t =>
      cases t
      split at p1
      · rename_i as er
        obtain ⟨a', vs, z, rfl, g, hs, sq⟩ := a.vr.lst R er
        exact ⟨a', vs, rfl, hs _ _ g, q _ _ [z] H1 p1 e1 k1 (by simpa using g) (iw_enum (B := B) walk_enum hs sq)⟩
      · exact p1.elim
  · exact p1.elim
theorem vi_enumT {tg e : Expr} {T : WA} (h : PI Y tg e (iEnumT X.K (liftA X T))) : PI Y tg e (liftI X (iEnumT' T)) := piV h fun σ H Q ⟨B, A, ρ, R, Po, Ex, h, xl, q⟩ => by
  refine ⟨B, A, ρ, R, _, Ex, h, xl, fun rs vs H1 p1 e1 k1 r1 => ?_⟩
  split at p1
  · rename_i r
    cases r1 with
    | cons a _ t =>
      cases t
      split at p1
      · rename_i as er
        obtain ⟨a', vs, z, rfl, g, hs, sq⟩ := a.vr.tpl er
        exact ⟨a', vs, rfl, hs _ _ g, q _ _ [z] H1 p1 e1 k1 (by simpa using g) (iw_enum (B := B) walk_enumT hs sq)⟩
      · exact p1.elim
  · exact p1.elim
def iZip (T : WA) : WI := fun ρ Q Ex => T ρ (fun rs => match rs with
  | [a, b] => (match a.lst, b.lst, a.tpl, b.tpl with | some as, some bs, _, _ => Q (pairs as bs) | _, _, some as, some bs => Q (pairs as bs) | _, _, _, _ => False)
  | _ => False) Ex
theorem vi_zip {tg e : Expr} {T : WA} (h : PI Y tg e (RZ.iZipA X.K (liftA X T))) : PI Y tg e (liftI X (iZip T)) := piV h fun σ H Q ⟨B, A, ρ, R, Po, Ex, h, xl, q⟩ => by
  refine ⟨B, A, ρ, R, _, Ex, h, xl, fun rs vs H1 p1 e1 k1 r1 => ?_⟩
  split at p1
  · rename_i ra rb
    cases r1 with
    | cons a b1 t =>
      cases t with
      | cons b b2 t =>
        cases t
        have va := a.vr
        have vb := b.vr.back2 b1
        split at p1
        · rename_i as bs ea eb
          obtain ⟨a1, vs1, z1, rfl, g1, hs1, sq1⟩ := va.lst R ea
          obtain ⟨a2, vs2, z2, rfl, g2, hs2, sq2⟩ := vb.lst R eb
          exact ⟨a1, a2, vs1, vs2, rfl, .inl ⟨hs1 _ _ g1, hs2 _ _ g2, q _ _ [z1, z2] H1 p1 e1 k1 (fun z hz => by simp at hz; rcases hz with rfl | rfl <;> assumption) (iw_pairs (B := B) (walk_zip rfl) (fun T H' q1 q2 => ⟨hs1 T H' q1, hs2 T H' q2⟩) sq1 sq2)⟩⟩
        · rename_i as bs ea eb _
          obtain ⟨a1, vs1, z1, rfl, g1, hs1, sq1⟩ := va.tpl ea
          obtain ⟨a2, vs2, z2, rfl, g2, hs2, sq2⟩ := vb.tpl eb
          exact ⟨a1, a2, vs1, vs2, rfl, .inr ⟨hs1 _ _ g1, hs2 _ _ g2, q _ _ [z1, z2] H1 p1 e1 k1 (fun z hz => by simp at hz; rcases hz with rfl | rfl <;> assumption) (iw_pairs (B := B) (walk_zipT rfl) (fun T H' q1 q2 => ⟨hs1 T H' q1, hs2 T H' q2⟩) sq1 sq2)⟩⟩
        · exact p1.elim
  · exact p1.elim
end
/-! ### targets -/
section
variable {Y : Cx} {X : Vx}
theorem pgV {e : Expr} {t t' : TG} (h : PG Y e t) (w : ∀ x σ H Q, t' x σ H Q → t x σ H Q) : PG Y e t' := ⟨fun pins s σ H v u Q I r q => h.run pins s σ H v u Q I r (w v σ H Q q)⟩
theorem pgsV {es : List Expr} {t t' : TGs} (h : PGs Y es t) (w : ∀ x σ H Q, t' x σ H Q → t x σ H Q) : PGs Y es t' := by
  obtain ⟨h⟩ := h
  constructor
  exact fun pins s σ H v u Q I r q => h pins s σ H v u Q I r (w v σ H Q q)
theorem wipe_set {σ : L2.St} {j : Nat} {o : Option V} : ∀ {vs : List Nat}, j ∈ vs → wipe (σ.set j o) vs = wipe σ vs
  | v :: vs, h => by
    show (wipe (σ.set j o) vs).set v none = (wipe σ vs).set v none
    by_cases hj : j ∈ vs
    · rw [wipe_set hj]
    · have : j = v := by
        rcases List.mem_cons.mp h with h | h
        · exact h
        · exact absurd h hj
      subst this
      have : wipe (σ.set j o) vs = (wipe σ vs).set j o := by
        clear h
        induction vs with
        | nil => rfl
        | cons u vs ih =>
          show (wipe (σ.set j o) vs).set u none = ((wipe σ vs).set u none).set j o
          have n1 : u ≠ j := fun z => hj (by rw [z]; simp)
          rw [ih fun z => hj (List.mem_cons_of_mem _ z), List.set_comm _ _ (Ne.symm n1)]
      rw [this, List.set_set]
/-- a name as a target -/
def gNm (i : Nat) : WG := fun it ρ Po => match it with
  | .one (.p d) => Po (ρ.set i (.im d))
  | .one (.o d) => Po (ρ.set i (.od d))
  | .one (.k m) => Po (ρ.set i (.rd m))
  | _ => False
theorem Rep.put0 {K : PySem.W.Frag} {B : Bs} {A : List Addr} {H : Hp} {σ : L2.St} {ρ : Env'} {o : Option V} {s : Sl} (R : Rep K B A H σ ρ) (i : Nat) (hs : SlOk K B (A ++ B.P) H o s []) : ∃ A', (∀ a ∈ A', a ∈ A) ∧ Rep K B A' H (σ.set i o) (ρ.set i s) := by
  obtain ⟨A', h1, h2⟩ := R.rl.put hs i (by simp)
  have sub : ∀ a ∈ A', a ∈ A := fun a z => (h1 a z).elim id fun z => nomatch z
  exact ⟨A', sub, h2.off fun a z => .inl ((List.mem_append.mp z).elim (fun z => List.mem_append_left _ (sub a z)) fun z => List.mem_append_right _ z), R.ext, fun a z => R.new a (sub a z), R.pool, R.pool0, R.s0, fun z hz => GR.off' (R.gh z hz) fun a w => .inl (sub a w)⟩
theorem vg_name {e : Expr} {i : Nat} (h : PG Y e (gName i)) : PG Y e (liftG X (gNm i) [i]) := pgV h fun x σ H Q ⟨B, A, ρ, it, R, ir, Po, h, q⟩ => by
  have fin : ∀ {s : Sl}, SlOk X.K B (A ++ B.P) H (some x) s [] → Po (ρ.set i s) → Q (σ.set i (some x)) H := fun hs hp => by
    obtain ⟨A', sub, R'⟩ := R.put0 i hs
    exact q _ A' _ hp sub R' fun vs hv => wipe_set (hv i (by simp))
  unfold gNm at h
  split at h
  · exact fin (.im ir) h
  · exact fin (.od ir) h
  · exact fin (.rd ir) h
  · exact h.elim
def gsNil : WGs := fun rs ρ Po => match rs with
  | [] => Po ρ
  | _ => False
def gsCons (G : WG) (Gs : WGs) : WGs := fun rs ρ Po => match rs with
  | r :: rest => G (.one r) ρ fun ρ' => Gs rest ρ' Po
  | _ => False
theorem vgs_nil : PGs Y [] (liftGs X gsNil []) := pgsV pgs_nil fun xs σ H Q ⟨B, A, ρ, rs, R, ir, Po, h, q⟩ => by
  unfold gsNil at h
  split at h
  · cases ir
    exact ⟨rfl, q ρ A σ h (fun _ z => z) R fun _ _ => rfl⟩
  · exact h.elim
theorem paired_off {K : PySem.W.Frag} {S0 T T' : List Addr} {H : Hp} {vs : List V} {rs : List Vl} (h : Paired (IVr K S0 T H) vs rs) (f : ∀ a ∈ T', a ∈ T) : Paired (IVr K S0 T' H) vs rs := Paired.imp h fun _ _ z => z.off fun a w => .inl (f a w)
theorem vgs_cons {e : Expr} {es : List Expr} {G : WG} {Gs : WGs} {js ks : List Nat} (h : PG Y e (liftG X G js)) (k : PGs Y es (liftGs X Gs ks)) (hs : (assignEach (e :: es) Y.env).map (·.2) = assign e Y.env :: (assignEach es Y.env).map (·.2) := by rfl) : PGs Y (e :: es) (liftGs X (gsCons G Gs) (js ++ ks)) :=
  pgsV (pgs_cons h k hs) fun xs σ H Q ⟨B, A, ρ, rs, R, ir, Po, h, q⟩ => by
    unfold gsCons at h
    split at h
    · rename_i r rest
      cases ir with
      | cons r1 rr =>
        refine ⟨_, _, rfl, B, A, ρ, .one r, R, r1, _, h, fun ρ1 A1 σ1 h1 s1 R1 w1 => ?_⟩
        refine ⟨B, A1, ρ1, rest, R1, paired_off rr fun a z => (List.mem_append.mp z).elim (fun z => List.mem_append_left _ (s1 a z)) fun z => List.mem_append_right _ z, _, h1, fun ρ2 A2 σ2 h2 s2 R2 w2 => ?_⟩
        exact q ρ2 A2 σ2 h2 (fun a z => s1 a (s2 a z)) R2 fun vs hv => by rw [w2 vs fun j hj => hv j (List.mem_append_right _ hj), w1 vs fun j hj => hv j (List.mem_append_left _ hj)]
    · exact h.elim
/-- a tuple of targets -/
def gTp (n : Nat) (Gs : WGs) : WG := fun it ρ Po => match it with
  | .one (.p (.tuple ds)) => ds.length = n ∧ Gs (ds.map .p) ρ Po
  | .one (.o (.tuple ds)) => ds.length = n ∧ Gs (ds.map .o) ρ Po
  | .two a b => 2 = n ∧ Gs [a, b] ρ Po
  | _ => False
theorem paired_p {K : PySem.W.Frag} {S0 T : List Addr} {H : Hp} : ∀ {vs : List V} {ds : List D}, PuA H vs ds → Paired (IVr K S0 T H) vs (ds.map .p)
  | _, _, .nil => .nil
  | _, _, .cons h t => .cons h (paired_p t)
theorem paired_o {K : PySem.W.Frag} {S0 T : List Addr} {H : Hp} : ∀ {vs : List V} {ds : List D}, DaA K (T ++ S0) H vs ds → Paired (IVr K S0 T H) vs (ds.map .o)
  | _, _, .nil => .nil
  | _, _, .cons h t => .cons h (paired_o t)
theorem vg_tup {e : Expr} {n : Nat} {Gs : WGs} {js : List Nat} (h : PG Y e (gTup X.K n (liftGs X Gs js))) : PG Y e (liftG X (gTp n Gs) js) := pgV h fun x σ H Q ⟨B, A, ρ, it, R, ir, Po, h, q⟩ => by
  unfold gTp at h
  split at h
  · cases ir with
    | tup z t => exact ⟨_, _, rfl, z.sq, by rw [t.len]; exact h.1, B, A, ρ, _, R, paired_p t, Po, h.2, q⟩
  · cases ir with
    | tup z t => exact ⟨_, _, rfl, z, by rw [t.len]; exact h.1, B, A, ρ, _, R, paired_o t, Po, h.2, q⟩
  · obtain ⟨t, va, vb, rfl, hs, ha, hb⟩ := ir
    exact ⟨t, _, rfl, hs, h.1, B, A, ρ, _, R, .cons ha (.cons hb .nil), Po, h.2, q⟩
  · exact h.elim
/-! ### for -/
def sFor (T : WI) (G : WG) (U : WS) : WS := fun ρ E Ex => T ρ (fun items => ∃ Inv : Nat → Env' → Prop, Inv 0 ρ ∧ (∀ i it ρ', items[i]? = some it → Inv i ρ' → G it ρ' fun ρ2 => U ρ2 { E with nx := Inv (i + 1), ct := Inv (i + 1), bk := E.nx } Ex) ∧ ∀ ρ', Inv items.length ρ' → E.nx ρ') Ex
theorem Rl.chg {K : PySem.W.Frag} {B B' : Bs} {T : List Addr} {H : Hp} {σ : L2.St} {ρ : Env'} {A : List Addr} (h : Rl K B T H σ ρ A) (e1 : B'.PP = B.PP) (e2 : B'.S0 = B.S0) : Rl K B' T H σ ρ A := by
  induction h with
  | nil => exact .nil
  | un _ ih => exact .un ih
  | im p _ ih => exact .im p ih
  | od p _ ih => exact .od (by rw [e2]; exact p) ih
  | rd p _ ih => exact .rd p ih
  | mu p d _ ih => exact .mu p d ih
  | pl p _ ih => exact .pl (by unfold Bs.P; rw [e1]; exact p) ih
  | pt p t _ ih => exact .pt (by unfold Bs.P; rw [e1]; exact p) (by rw [e1]; exact t) ih
abbrev Bs.gh (B : Bs) (Z : List Gh) : Bs := { B with Z := Z ++ B.Z }
theorem Rep.drop {K : PySem.W.Frag} {B : Bs} {Z : List Gh} {A : List Addr} {H : Hp} {σ : L2.St} {ρ : Env'} (R : Rep K (B.gh Z) A H σ ρ) : Rep K B A H σ ρ := ⟨R.rl.chg rfl rfl, R.ext, R.new, R.pool, R.pool0, R.s0, fun z hz => R.gh z (List.mem_append_right _ hz)⟩
theorem Rep.add {K : PySem.W.Frag} {B : Bs} {Z : List Gh} {A : List Addr} {H : Hp} {σ : L2.St} {ρ : Env'} (R : Rep K B A H σ ρ) (g : ∀ z ∈ Z, GR B A H z) : Rep K (B.gh Z) A H σ ρ := ⟨R.rl.chg rfl rfl, R.ext, R.new, R.pool, R.pool0, R.s0, fun z hz => (List.mem_append.mp hz).elim (g z) (R.gh z)⟩
theorem vs_for {tg iter : Expr} {body : List Stmt} {T : WI} {G : WG} {U : WS} {js : List Nat} {pos : Pos} (hp : PassesOwn (model Y.prog Y.w) Y.A Y.env Y.xe) (hc : Y.calm = true) (hi : PI Y tg iter (liftI X T)) (hg : PG Y tg (liftG X G js)) (hb : PSs Y body (liftS X U))
    (hs : ∀ x, foldedSetIterable iter Y.env x = pure x := by intro _; rfl) : PS Y (.For tg iter body [] pos) (liftS X (sFor T G U)) := psV (ps_for hp hc hi hg hb hs) fun D σ H ⟨B, A, ρ, R, E, Ex, h, xl, l⟩ => by
  refine ⟨B, A, ρ, R, _, Ex, h, xl, fun items J Z H1 p1 e1 k1 g1 w1 => ?_⟩
  obtain ⟨Inv, i0, step, done⟩ := p1
  obtain ⟨Gw, Yw, walk, gw, yw⟩ := w1
  have l' : ∀ {N : L2.St → Hp → Prop} {NE : Env' → Prop}, (∀ ρ A σ H, NE ρ → Rep X.K (B.gh Z) A H σ ρ → N σ H) → SLink X.K (B.gh Z) { D with nx := N, ct := N, bk := D.nx } { E with nx := NE, ct := NE, bk := E.nx } := fun hn =>
    ⟨hn, fun ρ A σ H n R => l.nx ρ A σ H n R.drop, hn, fun r v H hr he hk hv => l.rt r v H hr he hk (by cases r <;> exact hv)⟩
  refine for_it walk (fun i σ' H' => ∃ A' ρ', Rep X.K (B.gh Z) A' H' σ' ρ' ∧ Inv i ρ') ⟨A, ρ, (R.step e1 k1).add g1, i0⟩ ?_ ?_ ?_
  · rintro i σ' H' _ ⟨A', ρ', R', _⟩
    exact gw _ H' fun z hz => R'.gh z (List.mem_append_left _ hz)
  · rintro i x σ' H' H2 hi ⟨A', ρ', R', inv⟩ y
    obtain ⟨e2, it, hit, ir⟩ := yw i (A' ++ B.P) H' x H2 (fun z hz => R'.gh z (List.mem_append_left _ hz)) hi y
    have R2 : Rep X.K (B.gh Z) A' H2 σ' ρ' := R'.step (e2.mono fun _ z => nomatch z) (R'.pool.ext e2 (by simp))
    refine ⟨B.gh Z, A', ρ', it, R2, ir, _, step i it ρ' hit inv, fun ρ3 A3 σ3 h3 _ R3 _ => ?_⟩
    exact ⟨B.gh Z, A3, ρ3, R3, _, Ex, h3, xl, l' fun ρ A σ H n R => ⟨A, ρ, R, n⟩⟩
  · rintro σ' H' ⟨A', ρ', R', inv⟩
    exact l.nx ρ' A' σ' H' (done ρ' inv) R'.drop
/-! ### comprehensions -/
def wipeE (ρ : Env') : List Nat → Env'
  | [] => ρ
  | v :: vs => (wipeE ρ vs).set v .un
theorem Rep.wipe {K : PySem.W.Frag} {B : Bs} {H : Hp} {σ : L2.St} {ρ : Env'} : ∀ (vs : List Nat) {A : List Addr}, Rep K B A H σ ρ → ∃ A', (∀ a ∈ A', a ∈ A) ∧ Rep K B A' H (L2.wipe σ vs) (wipeE ρ vs)
  | [], A, R => ⟨A, fun _ z => z, R⟩
  | v :: vs, A, R => by
    obtain ⟨A1, s1, R1⟩ := R.wipe vs
    obtain ⟨A2, s2, R2⟩ := R1.put0 v (o := none) .un
    exact ⟨A2, fun a z => s1 a (s2 a z), R2⟩
theorem wipe_out : ∀ {us : List Nat} {τ : L2.St} {u : Nat}, u ∉ us → L2.wipe (τ.set u none) us = (L2.wipe τ us).set u none
  | [], _, _, _ => rfl
  | w :: us, τ, u, hn => by
    show (L2.wipe (τ.set u none) us).set w none = ((L2.wipe τ us).set w none).set u none
    rw [wipe_out fun z => hn (List.mem_cons_of_mem _ z), List.set_comm _ _ (fun z => hn (by rw [z]; simp))]
theorem wipe_wipe : ∀ (us : List Nat) {τ : L2.St}, L2.wipe (L2.wipe τ us) us = L2.wipe τ us
  | [], _ => rfl
  | u :: us, τ => by
    show (L2.wipe ((L2.wipe τ us).set u none) us).set u none = (L2.wipe τ us).set u none
    by_cases hu : u ∈ us
    · rw [wipe_set hu, wipe_wipe us]
    · rw [wipe_out hu, wipe_wipe us, List.set_set]
/-- [e for x in l if c]: what is made so far by an invariant -/
def eLc (T : WI) (G : WG) (C : WT) (U : WE) (vs : List Nat) : WE := fun ρ Q Ex => T ρ (fun items => items.length < sizeLine ∧ ∃ Inv : Nat → List D → Prop, Inv 0 [] ∧
  (∀ i it acc, items[i]? = some it → Inv i acc → G it (wipeE ρ vs) fun ρ2 => C ρ2 (fun b => if b = true then U ρ2 (fun r => ∃ d, r = .p d ∧ Inv (i + 1) (acc ++ [d])) Ex else Inv (i + 1) acc) Ex) ∧
  ∀ acc, Inv items.length acc → Q (.f (.L acc))) Ex
def cYes : WT := fun _ Q _ => Q true
theorem lift_yes : ∀ σ H Q, liftT X cYes σ H Q → tYes σ H Q := fun σ H Q ⟨B, A, ρ, R, Po, Ex, h, xl, q⟩ => q true H h .refl R.pool
theorem lift_lc {T : WI} {G : WG} {C : WT} {U : WE} {vs js : List Nat} {tt : TT} (hj : ∀ j ∈ js, j ∈ vs) (ht : ∀ σ H Q, liftT X C σ H Q → tt σ H Q) : ∀ σ H Q, liftE X (eLc T G C U vs) σ H Q → tLc (liftI X T) (liftG X G js) tt (liftE X U) vs σ H Q := by
  rintro σ H Q ⟨B, A, ρ, R, Po, Ex, h, xl, q⟩
  refine ⟨B, A, ρ, R, _, Ex, h, xl, fun items J Z H1 p1 e1 k1 g1 w1 D hD => ?_⟩
  obtain ⟨small, Inv, i0, step, done⟩ := p1
  obtain ⟨Gw, Yw, walk, gw, yw⟩ := w1
  have R1 := R.step e1 k1
  have DH : H D = none := pool_back k1 e1 hD
  have DP : D ∉ B.P := fun z => k1.lsts.some z hD
  -- the new list is at D; all that was there stands
  refine lc_it walk (fun i H' => ∃ acc ys, H' D = some (.lst ys) ∧ PuA H' ys acc ∧ acc.length ≤ i ∧ Inv i acc ∧ Ext B.P H1 H' ∧ PoolOk B.PP H') ⟨[], [], upd_same, .nil, Nat.le_refl _, i0, .new hD, k1.nw hD⟩ ?_ ?_ ?_
  · rintro i H' _ ⟨_, _, _, _, _, _, e, k⟩
    exact gw (A ++ B.P) H' fun z hz => z.ext (g1 z hz) e k1.lsts fun a w => List.mem_append_right _ w
  · rintro i x H' H2 hi ⟨acc, ys, hy, pu, hl, inv, e, k⟩ y
    obtain ⟨e2, it, hit, ir⟩ := yw i (A ++ B.P) H' x H2 (fun z hz => z.ext (g1 z hz) e k1.lsts fun a w => List.mem_append_right _ w) hi y
    have k2 : PoolOk B.PP H2 := k.ext e2 (by simp)
    have e12 : Ext B.P H1 H2 := e.trans (e2.mono fun _ z => nomatch z)
    obtain ⟨A2, s2, R2⟩ := (R1.step e12 k2).wipe vs
    have hy2 := e2 _ _ (by simp) hy
    have pu2 : PuA H2 ys acc := pu.ext e2 .nil
    refine ⟨B, A2, _, it, R2, ?_, _, step i it acc hit inv, fun ρ3 A3 σ3 h3 s3 R3 w3 => ⟨?_, ?_⟩⟩
    · cases it with
      | one r => exact IVr.off ir fun a z => .inl ((List.mem_append.mp z).elim (fun z => List.mem_append_left _ (s2 a z)) fun z => List.mem_append_right _ z)
      | two a b =>
        obtain ⟨t, va, vb, rfl, h1, h2, h3⟩ := ir
        have f : ∀ a ∈ A2 ++ B.P, a ∈ A ++ B.P ∨ H2 a = none := fun a z => .inl ((List.mem_append.mp z).elim (fun z => List.mem_append_left _ (s2 a z)) fun z => List.mem_append_right _ z)
        exact ⟨t, va, vb, rfl, h1, h2.off f, h3.off f⟩
    · exact (w3 vs hj).trans (wipe_wipe vs)
    · refine ht _ _ _ ⟨B, A3, ρ3, R3, _, Ex, h3, xl, fun b H4 p4 e4 k4 => ?_⟩
      have e24 : Ext B.P H1 H4 := e12.trans e4
      have hy4 := e4 _ _ DP hy2
      have pu4 := pu2.ext e4 k2.lsts
      cases b with
      | false =>
        rw [if_neg Bool.false_ne_true] at p4
        exact iteF ⟨acc, ys, hy4, pu4, by omega, p4, e24, k4⟩
      | true =>
        rw [if_pos rfl] at p4
        refine iteT ⟨B, A3, ρ3, R3.step e4 k4, _, Ex, p4, xl, fun r v H5 p5 e5 k5 r5 => ?_⟩
        obtain ⟨d, rfl, inv'⟩ := p5
        have hy5 := e5 _ _ DP hy4
        have pu5 := pu4.ext e5 k4.lsts
        have eD : Ext [D] H5 (upd H5 D (.lst (ys ++ [v]))) := .wr (by simp)
        refine ⟨ys, hy5, by rw [pu.len]; omega, acc ++ [d], ys ++ [v], upd_same, (pu5.append (.cons r5 .nil)).ext eD (one_lst hy5), by rw [List.length_append, List.length_singleton]; omega, inv', ?_, k5.ext eD (one_notP DP) (noX_l hy5)⟩
        exact (e24.trans e5).put' hD
  · rintro H' ⟨acc, ys, hy, pu, hl, inv, e, k⟩
    exact q _ _ H' (done acc inv) (e1.trans e) k ⟨[D], ⟨D, ys, rfl, rfl, hy, pu⟩, fun a z => by rw [List.mem_singleton.mp z]; exact DH⟩
end
end Nv
set_option Elab.async false
set_option linter.all false
set_option maxRecDepth 100000
/-! the value layer: promises and calls -/
namespace Nv
open PySem PySem.Spec PyProof.Rows L2
/-- what a def promises: from its arguments, what is wanted of its result, of what it raises -/
abbrev Spec := List Vl → (Vl → Prop) → Exn → Prop
/-- what stands for an argument -/
def AR (K : PySem.W.Frag) (P : Pd) (S0 : List Addr) (H : Hp) (v : V) : Vl → Prop
  | .p d => Pu H v d
  | .o d => Da K (P.ad ++ S0) H v d
  | .k m => rm H P.ad m v
  | .pl => ∃ p l R, P.ad = p :: l :: R ∧ v = .ref p
  | _ => False
def spV (K : PySem.W.Frag) (cl : Str → Addr → Prop) (S : Spec) : Sp := fun vs H Q E => ∃ (P : Pd) (S0 : List Addr) (rs : List Vl) (Po : Vl → Prop) (Ex : Exn), PoolOk P H ∧ (∀ a ∈ S0, H a ≠ none) ∧ Paired (AR K P S0 H) vs rs ∧ S rs Po Ex ∧
  (∀ r v H', Po r → Ext P.ad H H' → PoolOk P H' → RR K ⟨P, S0, H, []⟩ H' v r → Q v H') ∧ XLink ⟨K, cl, E⟩ ⟨P, S0, H, []⟩ Ex
/-- the same of a def that raises nothing there -/
def spC (K : PySem.W.Frag) (S : Spec) : Sp := fun vs H Q _ => ∃ (P : Pd) (S0 : List Addr) (rs : List Vl) (Po : Vl → Prop), PoolOk P H ∧ (∀ a ∈ S0, H a ≠ none) ∧ Paired (AR K P S0 H) vs rs ∧ S rs Po (fun _ _ => False) ∧
  ∀ r v H', Po r → Ext P.ad H H' → PoolOk P H' → RR K ⟨P, S0, H, []⟩ H' v r → Q v H'
theorem spC_V {K : PySem.W.Frag} {cl : Str → Addr → Prop} {S : Spec} {vs : List V} {H : Hp} {Q : VK} {E E' : XK} (h : spC K S vs H Q E') : spV K cl S vs H Q E := by
  obtain ⟨P, S0, rs, Po, h1, h2, h3, h4, h5⟩ := h
  exact ⟨P, S0, rs, Po, _, h1, h2, h3, h4, h5, fun _ _ _ _ _ _ z => z.elim⟩
theorem spC_len {K : PySem.W.Frag} {S : Spec} {n : Nat} (hS : ∀ rs Po Ex, S rs Po Ex → rs.length = n) {vs : List V} {H : Hp} {Q : VK} {E : XK} (h : spC K S vs H Q E) : vs.length = n := by
  obtain ⟨P, S0, rs, Po, _, _, h1, h2, _⟩ := h
  rw [Paired.len h1, hS rs Po _ h2]
/-- a def that may raise, where it does not -/
theorem FnOk.calmV {P : Program} {w : World} {K : PySem.W.Frag} {mg : Str → Option Value} {base : Heap} {k : Nat} {f : Addr} {fd : FuncData} {ps : List Str} {cl : Str → Addr → Prop} {S : Spec} (F : FnOk P w K mg base (L2.CX P w) k f fd ps (spV K cl S)) : FnOk P w K mg base CX0 k f fd ps (spC K S) :=
  ⟨fun vs H Q E h => F.len vs H Q _ (spC_V (E := fun _ _ _ => False) h), fun A outer s H args us vs Q E a b c d h => codeAny_mono (F.run A outer s H args us vs Q (fun _ _ _ => False) a b c d (spC_V h)) fun r s' z => by
    cases r with
    | error e =>
      obtain ⟨_, _, _, _, _, _, _, _, _, _, _, _, x⟩ := z
      exact (x : False).elim
    | ok fl => cases fl <;> exact z⟩
/-- a promise taken for another -/
theorem FnOk.weakV {P : Program} {w : World} {K : PySem.W.Frag} {mg : Str → Option Value} {base : Heap} {CX : CXT} {k : Nat} {f : Addr} {fd : FuncData} {ps : List Str} {sp sp' : Sp} (F : FnOk P w K mg base CX k f fd ps sp) (h : ∀ vs H Q E, sp' vs H Q E → sp vs H Q E) : FnOk P w K mg base CX k f fd ps sp' :=
  ⟨fun vs H Q E z => F.len vs H Q E (h vs H Q E z), fun A outer s H args us vs Q E a b c d z => F.run A outer s H args us vs Q E a b c d (h vs H Q E z)⟩
theorem spV_len {K : PySem.W.Frag} {cl : Str → Addr → Prop} {S : Spec} {n : Nat} (hS : ∀ rs Po Ex, S rs Po Ex → rs.length = n) {vs : List V} {H : Hp} {Q : VK} {E : XK} (h : spV K cl S vs H Q E) : vs.length = n := by
  obtain ⟨P, S0, rs, Po, Ex, _, _, h1, h2, _⟩ := h
  rw [Paired.len h1, hS rs Po Ex h2]
def slOf : Vl → Sl
  | .p d => .im d
  | .o d => .od d
  | .k m => .rd m
  | .pl => .pl
  | _ => .un
def startE (N : List Str) (rs : List Vl) : Env' := rs.map slOf ++ List.replicate (N.length - rs.length) .un
/-- the start of a def's body -/
theorem enterV {K : PySem.W.Frag} {cl : Str → Addr → Prop} {S : Spec} {vs : List V} {H : Hp} {Q : VK} {E : XK} {N : List Str} {T : WS} (h : spV K cl S vs H Q E) (go : ∀ rs Po Ex, S rs Po Ex → T (startE N rs) { nx := fun _ => Po (.p .none), rt := Po } Ex) :
    liftS ⟨K, cl, E⟩ T { nx := fun _ H' => Q .non H', rt := Q } (L2.start N vs) H := by
  obtain ⟨P, S0, rs, Po, Ex, kp, ks, ha, hs, q, xl⟩ := h
  have un : ∀ n : Nat, Rl K ⟨P, S0, H, []⟩ ([] ++ P.ad) H (List.replicate n none) (List.replicate n .un) [] := by
    intro n
    induction n with
    | zero => exact .nil
    | succ n ih => exact .un ih
  have r : Rl K ⟨P, S0, H, []⟩ ([] ++ P.ad) H (L2.start N vs) (startE N rs) [] := by
    unfold L2.start startE
    rw [Paired.len ha]
    generalize N.length - rs.length = n
    clear hs q
    induction ha with
    | nil => exact un n
    | @cons v r vs rs h1 _ ih =>
      cases r with
      | p d => exact .im h1 ih
      | o d => exact .od h1 ih
      | k m => exact .rd h1 ih
      | pl =>
        obtain ⟨p, l, R', e, rfl⟩ := h1
        exact .pl e ih
      | b m => exact h1.elim
      | f m => exact h1.elim
  refine ⟨⟨P, S0, H, []⟩, [], _, ⟨r, .refl, by simp, kp, kp, ks, by simp⟩, _, Ex, go rs Po Ex hs, xl, ?_, ?_, ?_, fun r v H' hr he hk hv => q r v H' hr he hk hv⟩
  · intro ρ A σ H' n R
    exact q _ _ H' n R.ext R.pool .non
  · exact fun _ _ _ _ n => n.elim
  · exact fun _ _ _ _ n => n.elim
theorem enterC {K : PySem.W.Frag} {cl : Str → Addr → Prop} {S : Spec} {vs : List V} {H : Hp} {Q : VK} {E : XK} {N : List Str} {T : WS} (h : spC K S vs H Q E) (go : ∀ rs Po, S rs Po (fun _ _ => False) → T (startE N rs) { nx := fun _ => Po (.p .none), rt := Po } fun _ _ => False) :
    liftS ⟨K, cl, E⟩ T { nx := fun _ H' => Q .non H', rt := Q } (L2.start N vs) H := by
  obtain ⟨P, S0, rs, Po, h1, h2, h3, h4, h5⟩ := h
  have h' : spV K cl (fun rs Po' Ex => S rs Po' (fun _ _ => False) ∧ Ex = fun _ _ => False) vs H Q E := ⟨P, S0, rs, Po, _, h1, h2, h3, ⟨h4, rfl⟩, h5, fun _ _ _ _ _ _ z => z.elim⟩
  exact enterV h' fun rs Po Ex ⟨a, b⟩ => by rw [b]; exact go rs Po a
/-! ### calls -/
/-- as an argument -/
def argOf : Vl → Vl
  | .b m => .k m
  | .f m => .k m
  | r => r
def eCall (S : Spec) (ds : List D) (T : WA) : WE := fun ρ Q Ex => T ρ (fun rs => S (rs.map argOf ++ ds.map .p) Q fun _ _ => False) Ex
def eCallX (S : Spec) (ds : List D) (T : WA) : WE := fun ρ Q Ex => T ρ (fun rs => S (rs.map argOf ++ ds.map .p) Q Ex) Ex
section
variable {K : PySem.W.Frag} {B : Bs} {A : List Addr} {H H0 H1 H' : Hp} {σ : L2.St} {ρ : Env'}
theorem VRX.arg {v : V} {r : Vl} (k0 : PoolOk B.PP H0) (h : VRX K B A H0 H' H v r) : AR K B.PP (A ++ B.S0) H v (argOf r) := by
  cases r with
  | p d => exact h
  | o d => exact Da.off (S' := B.P ++ (A ++ B.S0)) (fun a z => .inl (by simp only [List.mem_append] at z ⊢; rcases z with z | z | z <;> simp [z])) h
  | b m => exact h
  | k m => exact rm.off (fun a z => .inl (List.mem_append_right _ z)) h
  | f m =>
    obtain ⟨L, h1, h2⟩ := h
    exact h1.rm fun a z w => k0.lsts.some w (h2 a z).1
  | pl => exact h
theorem VRA.args : ∀ {rs : List Vl} {H0 : Hp} {vs : List V}, PoolOk B.PP H0 → (∀ a, H1 a = none → H0 a = none) → VRA K B A H H0 vs rs → (∀ a ∈ B.P, H0 a ≠ none) → Paired (AR K B.PP (A ++ B.S0) H) vs (rs.map argOf)
  | [], _, _, _, _, h, _ => by cases h; exact .nil
  | r :: rs, _, _, k0, n, h, kp => by
    cases h with
    | cons h b t =>
      refine .cons (h.arg k0) ?_
      -- the pool's addresses are there at each step
      have : ∀ {rs : List Vl} {G : Hp} {vs : List V}, (∀ a ∈ B.P, G a ≠ none) → VRA K B A H G vs rs → Paired (AR K B.PP (A ++ B.S0) H) vs (rs.map argOf) := by
        intro rs
        induction rs with
        | nil => intro G vs _ h; cases h; exact .nil
        | cons r rs ih =>
          intro G vs hG h
          cases h with
          | cons h b t =>
            refine .cons ?_ (ih (fun a z w => hG a z (b a w)) t)
            cases r with
            | p d => exact h
            | o d => exact Da.off (S' := B.P ++ (A ++ B.S0)) (fun a z => .inl (by simp only [List.mem_append] at z ⊢; rcases z with z | z | z <;> simp [z])) h
            | b m => exact h
            | k m => exact rm.off (fun a z => .inl (List.mem_append_right _ z)) h
            | f m =>
              obtain ⟨L, h1, h2⟩ := h
              exact h1.rm fun a z w => hG a w (h2 a z).1
            | pl => exact h
      exact this (fun a z w => kp a z (b a w)) t
theorem RR.vr {v : V} {r : Vl} (h : RR K ⟨B.PP, A ++ B.S0, H1, []⟩ H' v r) (e : Ext B.P H H1) (k : PoolOk B.PP H1) : VR K B A H H' v r := by
  cases r with
  | p d => exact h
  | o d => exact Da.off (S := B.P ++ (A ++ B.S0)) (fun a z => .inl (by simp only [List.mem_append] at z ⊢; rcases z with (z | z) | z <;> simp [z])) h
  | b m => exact h.elim
  | k m => exact h.elim
  | pl => exact h.elim
  | f m =>
    obtain ⟨L, h1, h2⟩ := h
    exact ⟨L, h1, fun a z => pool_back k e (h2 a z)⟩
end
section
variable {X : Vx} {S : Spec} {T : WA} {dvs : List V} {ds : List D}
theorem paired_app {K : PySem.W.Frag} {P : Pd} {S0 : List Addr} {H : Hp} : ∀ {vs : List V} {rs : List Vl}, Paired (AR K P S0 H) vs rs → PuA H dvs ds → Paired (AR K P S0 H) (vs ++ dvs) (rs ++ ds.map .p)
  | _, _, .nil, h => by
    have : ∀ {vs : List V} {ds : List D}, PuA H vs ds → Paired (AR K P S0 H) vs (ds.map .p) := by
      intro vs ds h
      induction ds generalizing vs with
      | nil => cases h; exact .nil
      | cons d ds ih => cases h with | cons a b => exact .cons a (ih b)
    exact this h
  | _, _, .cons a b, h => .cons a (paired_app b h)
theorem lift_call {E : XK} (hd : ∀ H, PuA H dvs ds) : ∀ σ H Q, liftE X (eCall S ds T) σ H Q → tCall (spC X.K S) dvs E (liftA X T) σ H Q := by
  rintro σ H Q ⟨B, A, ρ, R, Po, Ex, h, xl, q⟩
  refine ⟨B, A, ρ, R, _, Ex, h, xl, fun rs vs H1 p1 e1 k1 r1 => ?_⟩
  have kp : ∀ a ∈ B.P, H a ≠ none := fun a z => R.pool.lsts.some z
  have old : ∀ a ∈ A ++ B.S0, H1 a ≠ none := fun a z w => by
    rcases List.mem_append.mp z with z | z
    · have := pool_back k1 e1 w
      exact R.lsts.some z this
    · exact R.s0 a z (R.sub (pool_back k1 e1 w))
  refine ⟨B.PP, A ++ B.S0, _, _, k1, old, paired_app (r1.args (H1 := H1) R.pool (fun a z => pool_back k1 e1 z) kp) (hd H1), p1, fun r v H' hr he hk hv => ?_⟩
  exact q r v H' hr (e1.trans he) hk (hv.vr e1 k1)
theorem lift_callX (hd : ∀ H, PuA H dvs ds) : ∀ σ H Q, liftE X (eCallX S ds T) σ H Q → tCall (spV X.K X.cl S) dvs X.E (liftA X T) σ H Q := by
  rintro σ H Q ⟨B, A, ρ, R, Po, Ex, h, xl, q⟩
  refine ⟨B, A, ρ, R, _, Ex, h, xl, fun rs vs H1 p1 e1 k1 r1 => ?_⟩
  have kp : ∀ a ∈ B.P, H a ≠ none := fun a z => R.pool.lsts.some z
  have old : ∀ a ∈ A ++ B.S0, H1 a ≠ none := fun a z w => by
    rcases List.mem_append.mp z with z | z
    · have := pool_back k1 e1 w
      exact R.lsts.some z this
    · exact R.s0 a z (R.sub (pool_back k1 e1 w))
  refine ⟨B.PP, A ++ B.S0, _, _, _, k1, old, paired_app (r1.args (H1 := H1) R.pool (fun a z => pool_back k1 e1 z) kp) (hd H1), p1, fun r v H' hr he hk hv => ?_, fun nm d C dx y H' hx hc hdx hy he hk => ?_⟩
  · exact q r v H' hr (e1.trans he) hk (hv.vr e1 k1)
  · exact xl nm d C dx y H' hx hc hdx (Da.off (S := B.P ++ (A ++ B.S0)) (fun a z => .inl (by simp only [List.mem_append] at z ⊢; rcases z with z | z <;> simp [z])) hy) ((R.ext.trans e1).trans he) hk
end
section
variable {Y : Cx} {X : Vx} {S : Spec} {T : WA}
theorem ve_call {e : Expr} {E : XK} {dvs : List V} {ds : List D} (h : PE Y e (tCall (spC X.K S) dvs E (liftA X T))) (hd : ∀ H, PuA H dvs ds) : PE Y e (liftE X (eCall S ds T)) := peV h (lift_call hd)
theorem ve_callX {e : Expr} {dvs : List V} {ds : List D} (h : PE Y e (tCall (spV X.K X.cl S) dvs X.E (liftA X T))) (hd : ∀ H, PuA H dvs ds) : PE Y e (liftE X (eCallX S ds T)) := peV h (lift_callX hd)
theorem ve_call0 {e : Expr} {E : XK} (h : PE Y e (tCall (spC X.K S) [] E tNil)) : PE Y e (liftE X (eCall S [] aNil)) := peV h fun σ H Q h => lift_call (E := E) (dvs := []) (ds := []) (fun _ => .nil) σ H Q h |> fun ⟨B, A, ρ, R, Po, Ex, h, xl, q⟩ => q [] [] H h .refl R.pool .nil
/-- a builtin, a type called -/
theorem ve_cb {e : Expr} {F : FA} {r : List V → Hp → VK → Prop} (h : PE Y e (tCB r (liftA X T))) (core : CoreA X.K F r) : PE Y e (liftE X (eAs F T)) := peV h (lift_as core)
/-- raise C(e) -/
def sRaise (nm : Str) (U : WE) : WS := fun ρ _ Ex => U ρ (fun r => match r with | .p d => Ex nm d | .o d => Ex nm d | _ => False) Ex
theorem vs_raise {e : Expr} {pos : Pos} {C : Addr} {nm : Str} {U : WE} (hcalm : Y.calm = true) (tk : Takes Y fun c d _ H => X.E c d H) (he : PMk Y e (tMkX C nm (liftE X U))) (hc : X.cl nm C) : PS Y (.Raise (some e) none pos) (liftS X (sRaise nm U)) := psV (ps_raise hcalm tk he) fun D σ H ⟨B, A, ρ, R, E, Ex, h, xl, l⟩ => by
  refine ⟨B, A, ρ, R, _, Ex, h, xl, fun r v H1 p1 e1 k1 r1 dx hdx => ?_⟩
  have e2 : Ext B.P H1 (upd H1 dx (xdV nm v)) := .new hdx
  have fin : ∀ d, Ex nm d → Da X.K (B.P ++ B.S0) H1 v d → X.E (.ref C) (some dx) (upd H1 dx (xdV nm v)) := fun d hx hd =>
    xl nm d C dx v _ hx hc upd_same (hd.ext (Ext.new (L := []) hdx) .nil (by simp)) ((R.ext.trans e1).trans e2) (k1.nw hdx)
  split at p1
  · exact fin _ p1 (Pu.da r1)
  · exact fin _ p1 (Da.off (fun a z => .inl (by simp only [List.mem_append] at z ⊢; rcases z with z | z <;> simp [z])) r1)
  · exact p1.elim
end
end Nv
namespace Nv
open PySem PySem.Spec PyProof.Rows L2
/-! ### promises by the number of arguments -/
abbrev S1 := Vl → (Vl → Prop) → Exn → Prop
abbrev S2 := Vl → Vl → (Vl → Prop) → Exn → Prop
abbrev S3 := Vl → Vl → Vl → (Vl → Prop) → Exn → Prop
abbrev S4 := Vl → Vl → Vl → Vl → (Vl → Prop) → Exn → Prop
abbrev S5 := Vl → Vl → Vl → Vl → Vl → (Vl → Prop) → Exn → Prop
def sv1 (S : S1) : Spec := fun rs Po Ex => match rs with | [a] => S a Po Ex | _ => False
def sv2 (S : S2) : Spec := fun rs Po Ex => match rs with | [a, b] => S a b Po Ex | _ => False
def sv3 (S : S3) : Spec := fun rs Po Ex => match rs with | [a, b, c] => S a b c Po Ex | _ => False
def sv4 (S : S4) : Spec := fun rs Po Ex => match rs with | [a, b, c, d] => S a b c d Po Ex | _ => False
def sv5 (S : S5) : Spec := fun rs Po Ex => match rs with | [a, b, c, d, e] => S a b c d e Po Ex | _ => False
theorem sv1_len {S : S1} (rs : List Vl) (Po : Vl → Prop) (Ex : Exn) (h : sv1 S rs Po Ex) : rs.length = 1 := by unfold sv1 at h; split at h <;> first | rfl | exact h.elim
theorem sv2_len {S : S2} (rs : List Vl) (Po : Vl → Prop) (Ex : Exn) (h : sv2 S rs Po Ex) : rs.length = 2 := by unfold sv2 at h; split at h <;> first | rfl | exact h.elim
theorem sv3_len {S : S3} (rs : List Vl) (Po : Vl → Prop) (Ex : Exn) (h : sv3 S rs Po Ex) : rs.length = 3 := by unfold sv3 at h; split at h <;> first | rfl | exact h.elim
theorem sv4_len {S : S4} (rs : List Vl) (Po : Vl → Prop) (Ex : Exn) (h : sv4 S rs Po Ex) : rs.length = 4 := by unfold sv4 at h; split at h <;> first | rfl | exact h.elim
theorem sv5_len {S : S5} (rs : List Vl) (Po : Vl → Prop) (Ex : Exn) (h : sv5 S rs Po Ex) : rs.length = 5 := by unfold sv5 at h; split at h <;> first | rfl | exact h.elim
section
variable {K : PySem.W.Frag} {cl : Str → Addr → Prop} {vs : List V} {H : Hp} {Q : VK} {E : XK} {N : List Str} {T : WS}
theorem enter1 {S : S1} (h : spV K cl (sv1 S) vs H Q E) (go : ∀ a Po Ex, S a Po Ex → T (startE N [a]) { nx := fun _ => Po (.p .none), rt := Po } Ex) : liftS ⟨K, cl, E⟩ T { nx := fun _ H' => Q .non H', rt := Q } (L2.start N vs) H :=
  enterV h fun rs Po Ex h => by unfold sv1 at h; split at h <;> first | exact go _ Po Ex h | exact h.elim
theorem enter2 {S : S2} (h : spV K cl (sv2 S) vs H Q E) (go : ∀ a b Po Ex, S a b Po Ex → T (startE N [a, b]) { nx := fun _ => Po (.p .none), rt := Po } Ex) : liftS ⟨K, cl, E⟩ T { nx := fun _ H' => Q .non H', rt := Q } (L2.start N vs) H :=
  enterV h fun rs Po Ex h => by unfold sv2 at h; split at h <;> first | exact go _ _ Po Ex h | exact h.elim
theorem enter3 {S : S3} (h : spV K cl (sv3 S) vs H Q E) (go : ∀ a b c Po Ex, S a b c Po Ex → T (startE N [a, b, c]) { nx := fun _ => Po (.p .none), rt := Po } Ex) : liftS ⟨K, cl, E⟩ T { nx := fun _ H' => Q .non H', rt := Q } (L2.start N vs) H :=
  enterV h fun rs Po Ex h => by unfold sv3 at h; split at h <;> first | exact go _ _ _ Po Ex h | exact h.elim
theorem enter4 {S : S4} (h : spV K cl (sv4 S) vs H Q E) (go : ∀ a b c d Po Ex, S a b c d Po Ex → T (startE N [a, b, c, d]) { nx := fun _ => Po (.p .none), rt := Po } Ex) : liftS ⟨K, cl, E⟩ T { nx := fun _ H' => Q .non H', rt := Q } (L2.start N vs) H :=
  enterV h fun rs Po Ex h => by unfold sv4 at h; split at h <;> first | exact go _ _ _ _ Po Ex h | exact h.elim
theorem enter5 {S : S5} (h : spV K cl (sv5 S) vs H Q E) (go : ∀ a b c d e Po Ex, S a b c d e Po Ex → T (startE N [a, b, c, d, e]) { nx := fun _ => Po (.p .none), rt := Po } Ex) : liftS ⟨K, cl, E⟩ T { nx := fun _ H' => Q .non H', rt := Q } (L2.start N vs) H :=
  enterV h fun rs Po Ex h => by unfold sv5 at h; split at h <;> first | exact go _ _ _ _ _ Po Ex h | exact h.elim
theorem enterC1 {S : S1} (h : spC K (sv1 S) vs H Q E) (go : ∀ a Po, S a Po (fun _ _ => False) → T (startE N [a]) { nx := fun _ => Po (.p .none), rt := Po } fun _ _ => False) : liftS ⟨K, cl, E⟩ T { nx := fun _ H' => Q .non H', rt := Q } (L2.start N vs) H :=
  enterC h fun rs Po h => by unfold sv1 at h; split at h <;> first | exact go _ Po h | exact h.elim
theorem enterC2 {S : S2} (h : spC K (sv2 S) vs H Q E) (go : ∀ a b Po, S a b Po (fun _ _ => False) → T (startE N [a, b]) { nx := fun _ => Po (.p .none), rt := Po } fun _ _ => False) : liftS ⟨K, cl, E⟩ T { nx := fun _ H' => Q .non H', rt := Q } (L2.start N vs) H :=
  enterC h fun rs Po h => by unfold sv2 at h; split at h <;> first | exact go _ _ Po h | exact h.elim
theorem enterC3 {S : S3} (h : spC K (sv3 S) vs H Q E) (go : ∀ a b c Po, S a b c Po (fun _ _ => False) → T (startE N [a, b, c]) { nx := fun _ => Po (.p .none), rt := Po } fun _ _ => False) : liftS ⟨K, cl, E⟩ T { nx := fun _ H' => Q .non H', rt := Q } (L2.start N vs) H :=
  enterC h fun rs Po h => by unfold sv3 at h; split at h <;> first | exact go _ _ _ Po h | exact h.elim
theorem enterC4 {S : S4} (h : spC K (sv4 S) vs H Q E) (go : ∀ a b c d Po, S a b c d Po (fun _ _ => False) → T (startE N [a, b, c, d]) { nx := fun _ => Po (.p .none), rt := Po } fun _ _ => False) : liftS ⟨K, cl, E⟩ T { nx := fun _ H' => Q .non H', rt := Q } (L2.start N vs) H :=
  enterC h fun rs Po h => by unfold sv4 at h; split at h <;> first | exact go _ _ _ _ Po h | exact h.elim
theorem enterC5 {S : S5} (h : spC K (sv5 S) vs H Q E) (go : ∀ a b c d e Po, S a b c d e Po (fun _ _ => False) → T (startE N [a, b, c, d, e]) { nx := fun _ => Po (.p .none), rt := Po } fun _ _ => False) : liftS ⟨K, cl, E⟩ T { nx := fun _ H' => Q .non H', rt := Q } (L2.start N vs) H :=
  enterC h fun rs Po h => by unfold sv5 at h; split at h <;> first | exact go _ _ _ _ _ Po h | exact h.elim
end
end Nv
set_option Elab.async false
set_option linter.all false
set_option maxRecDepth 100000
namespace Nv
open PySem PySem.Spec PyProof.Rows L2
/-! ### sorted(set), of few unlike numbers -/
theorem SetR_few {w : World} {h : Heap} {a : Addr} {S : Int → Bool} {n : Nat} (R : SetR w h a S n) {L : List Int} (hL : ∀ k, S k = true → k ∈ L) : n ≤ L.length := by
  obtain ⟨o, es, ep, t, ho, hx, hd, g, nd, hm, hb, hf, hn, _⟩ := R
  have := List.Nodup.length_le_of_subset nd (l₂ := L) fun k hk => hL k ((hm k).mpr hk)
  rw [List.length_map, Array.length_toList] at this
  omega
def rSortedSetL (w : World) : List V → Hp → VK → Prop := fun vs H Q => ∃ (a : Addr) (S : Int → Bool) (n : Nat) (L : List Int), vs = [V.ref a] ∧ H a = some (SetO w a S n) ∧ (∀ k, S k = true → k ∈ L) ∧ L.length < 64 ∧
  ∀ (ns : List Int) (p : Addr), ns.Pairwise (· < ·) → (∀ k : Int, k ∈ ns ↔ S k = true) → H p = none → Q (.ref p) (upd H p (.lst (ns.map V.int)))
theorem cr_sortedSetL {X : Cx} (hc : X.calm = true) : CallR X (.builtin "sorted") (rSortedSetL X.w) := by
  intro pins s σ H vs us Q I r h
  obtain ⟨a, S, n, L, e, ha, hS, h64, q⟩ := h
  have R := setO_get I ha
  have := SetR_few R hS
  exact cr_sortedSet hc pins s σ H vs us Q I r ⟨a, S, n, e, ha, by omega, fun ns p h1 h2 _ h4 => q ns p h1 h2 h4⟩
/-! ### rows and pairs of a row and a state -/
def RwV (K : PySem.W.Frag) (H : Hp) (v : V) (r : List Nat) : Prop := ∃ a : Addr, v = .ref a ∧ SqT K H a (r.map nV)
def PrV (K : PySem.W.Frag) (H : Hp) (v : V) (q : List Nat × Nat) : Prop := ∃ (a : Addr) (u : V), v = .ref a ∧ SqT K H a [u, .int q.2] ∧ RwV K H u q.1
theorem RwV.ext {K : PySem.W.Frag} {L : List Addr} {H H' : Hp} {v : V} {r : List Nat} (h : RwV K H v r) (e : Ext L H H') (l : Lsts L H) : RwV K H' v r := by
  obtain ⟨a, rfl, h1⟩ := h
  exact ⟨a, rfl, e.tup l h1⟩
theorem PrV.ext {K : PySem.W.Frag} {L : List Addr} {H H' : Hp} {v : V} {q : List Nat × Nat} (h : PrV K H v q) (e : Ext L H H') (l : Lsts L H) : PrV K H' v q := by
  obtain ⟨a, u, rfl, h1, h2⟩ := h
  exact ⟨a, u, rfl, e.tup l h1, h2.ext e l⟩
theorem RwV.ext0 {K : PySem.W.Frag} {H H' : Hp} {v : V} {r : List Nat} (h : RwV K H v r) (e : Ext [] H H') : RwV K H' v r := h.ext e Lsts.nil
theorem PrV.ext0 {K : PySem.W.Frag} {H H' : Hp} {v : V} {q : List Nat × Nat} (h : PrV K H v q) (e : Ext [] H H') : PrV K H' v q := h.ext e Lsts.nil
theorem RwV.put {K : PySem.W.Frag} {H : Hp} {v : V} {r : List Nat} {p : Addr} {xs ys : List V} (h : RwV K H v r) (hp : H p = some (.lst xs)) : RwV K (upd H p (.lst ys)) v r := h.ext (L := [p]) (.wr (by simp)) (one_lst hp)
theorem PrV.put {K : PySem.W.Frag} {H : Hp} {v : V} {q : List Nat × Nat} {p : Addr} {xs ys : List V} (h : PrV K H v q) (hp : H p = some (.lst xs)) : PrV K (upd H p (.lst ys)) v q := h.ext (L := [p]) (.wr (by simp)) (one_lst hp)
theorem Paired.app {α β : Type} {F : α → β → Prop} : ∀ {l₁ : List α} {m₁ : List β} {l₂ : List α} {m₂ : List β}, Paired F l₁ m₁ → Paired F l₂ m₂ → Paired F (l₁ ++ l₂) (m₁ ++ m₂)
  | _, _, _, _, .nil, h => h
  | _, _, _, _, .cons r t, h => .cons r (Paired.app t h)
end Nv
set_option Elab.async false
set_option linter.all false
set_option maxRecDepth 100000
/-! the value layer: builtins, tuples and lists put together -/
namespace Nv
open PySem PySem.Spec PyProof.Rows L2
section
variable {K : PySem.W.Frag}
/-! ### tuples put together -/
def Vl.tup : Vl → Option (Bool × List D)
  | .p (.tuple ds) => some (true, ds)
  | .o (.tuple ds) => some (false, ds)
  | _ => none
def mkT (b : Bool) (ds : List D) : Vl := if b = true then .p (.tuple ds) else .o (.tuple ds)
def fCatT : F2 := fun a b Q => match a, b with
  | .p (.tuple ds), .p (.tuple es) => ds.length + es.length ≤ sizeLine ∧ Q (.p (.tuple (ds ++ es)))
  | .o (.tuple ds), .p (.tuple es) => ds.length + es.length ≤ sizeLine ∧ Q (.o (.tuple (ds ++ es)))
  | .p (.tuple ds), .o (.tuple es) => ds.length + es.length ≤ sizeLine ∧ Q (.o (.tuple (ds ++ es)))
  | .o (.tuple ds), .o (.tuple es) => ds.length + es.length ≤ sizeLine ∧ Q (.o (.tuple (ds ++ es)))
  | _, _ => False
theorem catO {B : Bs} {A : List Addr} {H0 H : Hp} {ds es : List D} {va vb : V} {Po : Vl → Prop} {Q : VK} (k : PoolOk B.PP H) (ha : Da K (A ++ B.P ++ B.S0) H va (.tuple ds)) (hb : Da K (A ++ B.P ++ B.S0) H vb (.tuple es)) (hz : ds.length + es.length ≤ sizeLine) (h : Po (.o (.tuple (ds ++ es))))
    (q : ∀ r v H', Po r → Ext B.P H H' → PoolOk B.PP H' → VR K B A H0 H' v r → Q v H') : rCatAZ K va vb H Q := by
  cases ha with
  | @tup a vs _ sa ta =>
    cases hb with
    | @tup b ws _ sb tb =>
      refine ⟨a, b, vs, ws, rfl, rfl, sa, sb, by rw [ta.len, tb.len]; exact hz, fun e => ?_, fun _ e => ?_, fun _ _ p H' hp ⟨o, _, hn⟩ => ?_⟩
      · subst e; cases ta
        exact q _ _ H h .refl k (.tup sb tb)
      · subst e; cases tb
        rw [List.append_nil] at h
        exact q _ _ H h .refl k (.tup sa ta)
      · subst hn
        have e2 : Ext [] H (upd H p (.frz o (.tup (vs ++ ws)))) := .new hp
        exact q _ _ _ h (.new hp) (k.nw hp) (.tup (.inl (.inr ⟨o, upd_same⟩)) ((ta.ext e2 .nil (by simp)).append (tb.ext e2 .nil (by simp))))
theorem c_catT : Core2 K fCatT (rCatAZ K) := by
  intro B A H0 H ra rb va vb Po Q k0 k e va' vb' h q
  unfold fCatT at h
  split at h
  · cases va' with
    | @tup a vs ds za ta =>
      cases vb' with
      | @tup b ws es zb tb =>
        refine ⟨a, b, vs, ws, rfl, rfl, za.sq, zb.sq, by rw [ta.len, tb.len]; exact h.1, fun e => ?_, fun _ e => ?_, fun _ _ p H' hp hn => ?_⟩
        · subst e; cases ta
          exact q _ _ H h.2 .refl k (.tup zb tb)
        · subst e; cases tb
          rw [List.append_nil] at h
          exact q _ _ H h.2 .refl k (.tup za ta)
        · obtain ⟨z1, z2⟩ := new_tup hp (ta.append tb) hn
          exact q _ _ H' h.2 (z2.mono fun _ z => nomatch z) (k.ext z2 (by simp)) z1
  · exact catO k va' (Pu.da vb') h.1 h.2 q
  · exact catO k (Pu.da va') vb' h.1 h.2 q
  · exact catO k va' vb' h.1 h.2 q
  · exact h.elim
/-- t * n -/
def fRepT : F2 := fun a b Q => match a, b.s with
  | .p (.tuple ds), .p (.int k) => (-(2 ^ 62) ≤ k ∧ k < 2 ^ 62 ∧ k.toNat * ds.length ≤ 100000) ∧ Q (.p (.tuple (List.replicate k.toNat ds).flatten))
  | _, _ => False
theorem rep_one {α : Type} (l : List α) : (List.replicate 1 l).flatten = l := by simp
theorem c_repT : Core2 K fRepT (rRepAZ K) := by
  intro B A H0 H ra rb va vb Po Q k0 k e va' vb' h q
  unfold fRepT at h
  have vb'' := vb'.s
  split at h
  · rename_i ds n h1
    rw [h1] at vb''
    cases vb''
    cases va' with
    | @tup a vs ds za ta =>
      refine ⟨a, n, vs, rfl, rfl, za.sq, h.1.1, h.1.2.1, by rw [ta.len]; exact h.1.2.2, fun e => ?_, fun _ _ p H' hp hn => ?_⟩
      · have e2 : (List.replicate n.toNat ds).flatten = ds := by
          rcases e with e | e
          · have : ds = [] := (ta.nil_iff).mp e
            subst this
            generalize n.toNat = m
            induction m with
            | zero => rfl
            | succ m ih => rw [List.replicate_succ, List.flatten_cons, ih]; rfl
          · subst e
            exact rep_one ds
        have h2 := h.2
        rw [e2] at h2
        exact q _ _ H h2 .refl k (.tup za ta)
      · obtain ⟨z1, z2⟩ := new_tup hp (ta.rep n.toNat) hn
        exact q _ _ H' h.2 (z2.mono fun _ z => nomatch z) (k.ext z2 (by simp)) z1
  · exact h.elim
/-! ### lists put together -/
def fCatL : F2 := fun a b Q => match a.m, b.m with
  | some (.L ds), some (.L es) => ds.length + es.length ≤ sizeLine ∧ Q (.f (.L (ds ++ es)))
  | _, _ => False
end
section
variable {K : PySem.W.Frag} {B : Bs} {A : List Addr} {H0 H : Hp}
theorem own_new {p : Addr} {vs : List V} {ds : List D} (k0 : PoolOk B.PP H0) (k : PoolOk B.PP H) (e : Ext B.P H0 H) (hp : H p = none) (h : PuA H vs ds) : VR K B A H0 (upd H p (.lst vs)) (.ref p) (.f (.L ds)) := new_lst (pool_back k e hp) hp h
def fRepL : F2 := fun a b Q => match a.m, b.s with
  | some (.L ds), .p (.int k) => (-(2 ^ 63) ≤ k ∧ k < 2 ^ 63 ∧ ds.length * k.toNat ≤ sizeLine) ∧ Q (.f (.L (List.replicate k.toNat ds).flatten))
  | _, _ => False
theorem c_catL : Core2 K fCatL rCat := by
  intro B A H0 H ra rb va vb Po Q k0 k e va' vb' h q
  unfold fCatL at h
  split at h
  · rename_i ds es h1 h2
    obtain ⟨a, vs, rfl, l1, t1⟩ := va'.m k0 h1
    obtain ⟨b, ws, rfl, l2, t2⟩ := vb'.m k0 h2
    exact ⟨a, b, vs, ws, rfl, rfl, l1.1, l2.1, by rw [t1.len, t2.len]; exact h.1, fun p hp => q _ _ _ h.2 (.new hp) (k.nw hp) (own_new k0 k e hp (t1.append t2))⟩
  · exact h.elim
theorem c_repL : Core2 K fRepL rRep := by
  intro B A H0 H ra rb va vb Po Q k0 k e va' vb' h q
  unfold fRepL at h
  have vb'' := vb'.s
  split at h
  · rename_i ds n h1 h2
    rw [h2] at vb''
    cases vb''
    obtain ⟨a, vs, rfl, l1, t1⟩ := va'.m k0 h1
    exact ⟨a, n, vs, rfl, rfl, l1.1, h.1.1, h.1.2.1, by rw [t1.len]; exact h.1.2.2, fun p hp => q _ _ _ h.2 (.new hp) (k.nw hp) (own_new k0 k e hp (t1.rep n.toNat))⟩
  · exact h.elim
/-! ### builtins -/
theorem cr_minK (K : PySem.W.Frag) {X : Cx} (h : X.K = K := by rfl) (hc : X.calm = true := by rfl) : CallR X (.builtin "min") (rMin K) := by subst h; exact cr_min hc
theorem cr_maxK (K : PySem.W.Frag) {X : Cx} (h : X.K = K := by rfl) (hc : X.calm = true := by rfl) : CallR X (.builtin "max") (rMax K) := by subst h; exact cr_max hc
theorem cr_allK (K : PySem.W.Frag) {X : Cx} (h : X.K = K := by rfl) (hc : X.calm = true := by rfl) : CallR X (.builtin "all") (rAll K) := by subst h; exact cr_all hc
theorem cr_sortedSetLK (w : World) {X : Cx} (h : X.w = w := by rfl) (hc : X.calm = true := by rfl) : CallR X (.builtin "sorted") (rSortedSetL w) := by subst h; exact cr_sortedSetL hc
/-- one argument -/
def f1 (F : F1) : FA := fun rs Q => match rs with | [r] => F r Q | _ => False
theorem core_1 {F : F1} {r : List V → Hp → VK → Prop} (h : ∀ (B : Bs) (A : List Addr) (H0 H : Hp) (ra : Vl) (va : V) (Po : Vl → Prop) (Q : VK), PoolOk B.PP H0 → PoolOk B.PP H → Ext B.P H0 H → VR K B A H0 H va ra → F ra Po →
    (∀ r v H', Po r → Ext B.P H H' → PoolOk B.PP H' → VR K B A H0 H' v r → Q v H') → r [va] H Q) : CoreA K (f1 F) r := by
  intro B A H0 H rs vs Po Q k0 k e va h' q
  unfold f1 at h'
  split at h'
  · rename_i ra
    cases va with
    | cons a _ t =>
      cases t
      exact h B A H0 H ra _ Po Q k0 k e a.vr h' q
  · exact h'.elim
def fLen : F1 := fun r Q => match r with
  | .p (.tuple ds) => Q (.p (.int ds.length))
  | .o (.tuple ds) => Q (.p (.int ds.length))
  | .o (.list ds) => Q (.p (.int ds.length))
  | .b (.L ds) => Q (.p (.int ds.length))
  | .k (.L ds) => Q (.p (.int ds.length))
  | .f (.L ds) => Q (.p (.int ds.length))
  | .b (.LL ds) => Q (.p (.int ds.length))
  | .k (.LL ds) => Q (.p (.int ds.length))
  | .f (.LL ds) => Q (.p (.int ds.length))
  | _ => False
theorem c_len : CoreA K (f1 fLen) (rLen K) := core_1 fun B A H0 H ra va Po Q k0 k e va' h q => by
  have seqL : ∀ {ds : List D}, rm H B.P (.L ds) va → Po (.p (.int ds.length)) → rLen K [va] H Q := fun {ds} ⟨a, vs, e1, l, t⟩ hp => by
    subst e1
    exact ⟨a, vs, rfl, .inl (.of l.1), by rw [t.len]; exact q _ _ H hp .refl k (.int _)⟩
  have seqM : ∀ {ms : List M}, rm H B.P (.LL ms) va → Po (.p (.int ms.length)) → rLen K [va] H Q := fun {ds} ⟨a, vs, e1, l, t⟩ hp => by
    subst e1
    exact ⟨a, vs, rfl, .inl (.of l.1), by rw [rmA_len t]; exact q _ _ H hp .refl k (.int _)⟩
  unfold fLen at h
  split at h
  · cases va' with
    | tup z t => exact ⟨_, _, rfl, .inr z.sq, by rw [t.len]; exact q _ _ H h .refl k (.int _)⟩
  · cases va' with
    | tup z t => exact ⟨_, _, rfl, .inr z, by rw [t.len]; exact q _ _ H h .refl k (.int _)⟩
  · cases va' with
    | lst z t => exact ⟨_, _, rfl, .inl (.of z.1), by rw [t.len]; exact q _ _ H h .refl k (.int _)⟩
  · exact seqL (va'.m k0 rfl) h
  · exact seqL (va'.m k0 rfl) h
  · exact seqL (va'.m k0 rfl) h
  · exact seqM (va'.m k0 rfl) h
  · exact seqM (va'.m k0 rfl) h
  · exact seqM (va'.m k0 rfl) h
  · exact h.elim
def fLenD : F1 := fun r Q => match r.m with | some (.DK kvs) => Q (.p (.int kvs.length)) | _ => False
theorem c_lenD : CoreA K (f1 fLenD) (fun xs H Q => ∃ a kvs, xs = [V.ref a] ∧ H a = some (.dK kvs) ∧ Q (.int kvs.length) H) := core_1 fun B A H0 H ra va Po Q k0 k e va' h q => by
  unfold fLenD at h
  split at h
  · rename_i kvs h1
    obtain ⟨a, ks, rfl, hr, _, hk, hp⟩ := va'.m k0 h1
    have : ks.length = kvs.length := by have := congrArg List.length hk; simpa using this
    exact ⟨a, ks, rfl, hr, by rw [this]; exact q _ _ H h .refl k (.int _)⟩
  · exact h.elim
/-- the keys of a dict -/
def kD : Key → D
  | .inl i => .int i
  | .inr x => .str x
theorem pu_k (k : Key) : Pu H (kV k) (kD k) := by cases k <;> constructor
theorem pu_keys : ∀ {ks : List (Key × V)} {kvs : List (Key × D)}, ks.map (·.1) = kvs.map (·.1) → PuA H (ks.map fun kv => kV kv.1) (kvs.map fun kv => kD kv.1)
  | [], [], _ => .nil
  | a :: ks, b :: kvs, h => by
    simp only [List.map_cons, List.cons.injEq] at h
    simp only [List.map_cons]
    rw [h.1]
    exact .cons (pu_k _) (pu_keys h.2)
  | [], _ :: _, h => by cases h
  | _ :: _, [], h => by cases h
def fListD : F1 := fun r Q => match r.m with | some (.DK kvs) => Q (.f (.L (kvs.map fun kv => kD kv.1))) | _ => False
theorem c_listD : CoreA K (f1 fListD) rListD := core_1 fun B A H0 H ra va Po Q k0 k e va' h q => by
  unfold fListD at h
  split at h
  · rename_i kvs h1
    obtain ⟨a, ks, rfl, hr, _, hk, hp⟩ := va'.m k0 h1
    exact ⟨a, ks, rfl, hr, fun p hp' => q _ _ _ h (.new hp') (k.nw hp') (own_new k0 k e hp' (pu_keys hk))⟩
  · exact h.elim
def fTupOf : F1 := fun r Q => match r with
  | .b (.L ds) => Q (.p (.tuple ds))
  | .k (.L ds) => Q (.p (.tuple ds))
  | .f (.L ds) => Q (.p (.tuple ds))
  | _ => False
theorem c_tupOf : CoreA K (f1 fTupOf) (rTupZ K) := core_1 fun B A H0 H ra va Po Q k0 k e va' h q => by
  have fin : ∀ {ds : List D}, rm H B.P (.L ds) va → Po (.p (.tuple ds)) → rTupZ K [va] H Q := fun {ds} ⟨a, vs, e1, l, t⟩ hp => by
    subst e1
    refine ⟨a, vs, rfl, .of l.1, fun p H' hn hz => ?_⟩
    obtain ⟨z1, z2⟩ := new_tup hn t hz
    exact q _ _ H' hp (z2.mono fun _ z => nomatch z) (k.ext z2 (by simp)) z1
  unfold fTupOf at h
  split at h
  · exact fin (va'.m k0 rfl) h
  · exact fin (va'.m k0 rfl) h
  · exact fin (va'.m k0 rfl) h
  · exact h.elim
def fListOf : F1 := fun r Q => match r with
  | .p (.tuple ds) => Q (.f (.L ds))
  | .b (.L ds) => Q (.f (.L ds))
  | .k (.L ds) => Q (.f (.L ds))
  | .f (.L ds) => Q (.f (.L ds))
  | _ => False
theorem c_listOf : CoreA K (f1 fListOf) (rListOf K) := core_1 fun B A H0 H ra va Po Q k0 k e va' h q => by
  have fin : ∀ {ds : List D}, rm H B.P (.L ds) va → Po (.f (.L ds)) → rListOf K [va] H Q := fun {ds} ⟨a, vs, e1, l, t⟩ hp => by
    subst e1
    exact ⟨a, vs, rfl, .inl (.of l.1), fun p hn => q _ _ _ hp (.new hn) (k.nw hn) (own_new k0 k e hn t)⟩
  unfold fListOf at h
  split at h
  · cases va' with
    | tup z t => exact ⟨_, _, rfl, .inr z.sq, fun p hn => q _ _ _ h (.new hn) (k.nw hn) (own_new k0 k e hn t)⟩
  · exact fin (va'.m k0 rfl) h
  · exact fin (va'.m k0 rfl) h
  · exact fin (va'.m k0 rfl) h
  · exact h.elim
/-- lists of numbers -/
def fInts (F : List Int → (Vl → Prop) → Prop) : F1 := fun r Q => ∃ ns : List Int, r.m = some (.L (ns.map PyData.int)) ∧ F ns Q
theorem ints_m {r : Vl} {v : V} {ns : List Int} (k0 : PoolOk B.PP H0) (h : VR K B A H0 H v r) (e : r.m = some (.L (ns.map PyData.int))) : ∃ a, v = .ref a ∧ SqL K H a (ns.map V.int) := by
  obtain ⟨a, vs, rfl, l, t⟩ := h.m k0 e
  rw [t.ints] at l
  exact ⟨a, rfl, .of l.1⟩
theorem puA_ints {H : Hp} : ∀ ns : List Int, PuA H (ns.map V.int) (ns.map PyData.int)
  | [] => .nil
  | n :: r => .cons (.int n) (puA_ints r)
def fSum : F1 := fInts fun ns Q => Q (.p (.int ns.sum))
theorem c_sum : CoreA K (f1 fSum) (rSum K) := core_1 fun B A H0 H ra va Po Q k0 k e va' h q => by
  obtain ⟨ns, h1, h2⟩ := h
  obtain ⟨a, rfl, hs⟩ := ints_m k0 va' h1
  exact ⟨a, ns, rfl, hs, q _ _ H h2 .refl k (.int _)⟩
def fMax : F1 := fInts fun ns Q => 0 < ns.length ∧ ∀ m, m ∈ ns → (∀ y, y ∈ ns → y ≤ m) → Q (.p (.int m))
def fMin : F1 := fInts fun ns Q => 0 < ns.length ∧ ∀ m, m ∈ ns → (∀ y, y ∈ ns → m ≤ y) → Q (.p (.int m))
theorem c_max : CoreA K (f1 fMax) (rMax K) := core_1 fun B A H0 H ra va Po Q k0 k e va' h q => by
  obtain ⟨ns, h1, h2, h3⟩ := h
  obtain ⟨a, rfl, hs⟩ := ints_m k0 va' h1
  exact ⟨a, ns, rfl, hs, h2, fun m hm hy => q _ _ H (h3 m hm hy) .refl k (.int _)⟩
theorem c_min : CoreA K (f1 fMin) (rMin K) := core_1 fun B A H0 H ra va Po Q k0 k e va' h q => by
  obtain ⟨ns, h1, h2, h3⟩ := h
  obtain ⟨a, rfl, hs⟩ := ints_m k0 va' h1
  exact ⟨a, ns, rfl, hs, h2, fun m hm hy => q _ _ H (h3 m hm hy) .refl k (.int _)⟩
def fSorted : F1 := fInts fun ns Q => ns.length < 64 ∧ ∀ ns' : List Int, ns'.Perm ns → ns'.Pairwise (· ≤ ·) → Q (.f (.L (ns'.map PyData.int)))
theorem c_sorted : CoreA K (f1 fSorted) (rSorted K) := core_1 fun B A H0 H ra va Po Q k0 k e va' h q => by
  obtain ⟨ns, h1, h2, h3⟩ := h
  obtain ⟨a, rfl, hs⟩ := ints_m k0 va' h1
  exact ⟨a, ns, rfl, hs, h2, fun ns' p hp hw hn => q _ _ _ (h3 ns' hp hw) (.new hn) (k.nw hn) (own_new k0 k e hn (puA_ints ns'))⟩
/-- lists of bools -/
theorem PuA.bools : ∀ {vs : List V} {bs : List Bool}, PuA H vs (bs.map PyData.bool) → vs = bs.map V.bl
  | _, [], .nil => rfl
  | _, b :: r, .cons h t => by
    cases h
    rw [PuA.bools t]
    rfl
def fBools (F : List Bool → (Vl → Prop) → Prop) : F1 := fun r Q => ∃ bs : List Bool, r.m = some (.L (bs.map PyData.bool)) ∧ F bs Q
theorem bools_m {r : Vl} {v : V} {bs : List Bool} (k0 : PoolOk B.PP H0) (h : VR K B A H0 H v r) (e : r.m = some (.L (bs.map PyData.bool))) : ∃ a, v = .ref a ∧ SqL K H a (bs.map V.bl) := by
  obtain ⟨a, vs, rfl, l, t⟩ := h.m k0 e
  rw [t.bools] at l
  exact ⟨a, rfl, .of l.1⟩
def fAny : F1 := fBools fun bs Q => Q (.p (.bool (bs.any id)))
def fAll : F1 := fBools fun bs Q => Q (.p (.bool (bs.all id)))
theorem c_any : CoreA K (f1 fAny) (rAny K) := core_1 fun B A H0 H ra va Po Q k0 k e va' h q => by
  obtain ⟨bs, h1, h2⟩ := h
  obtain ⟨a, rfl, hs⟩ := bools_m k0 va' h1
  exact ⟨a, bs, rfl, hs, q _ _ H h2 .refl k (.bl _)⟩
theorem c_all : CoreA K (f1 fAll) (rAll K) := core_1 fun B A H0 H ra va Po Q k0 k e va' h q => by
  obtain ⟨bs, h1, h2⟩ := h
  obtain ⟨a, rfl, hs⟩ := bools_m k0 va' h1
  exact ⟨a, bs, rfl, hs, q _ _ H h2 .refl k (.bl _)⟩
def fInt : F1 := fun r Q => match r.s with | .p (.int i) => Q (.p (.int i)) | .p (.bool b) => Q (.p (.int (if b = true then 1 else 0))) | _ => False
theorem c_int : CoreA K (f1 fInt) (fun xs H Q => (∃ i, xs = [.int i] ∧ Q (.int i) H) ∨ ∃ k, xs = [.bl k] ∧ Q (.int (if k then 1 else 0)) H) := core_1 fun B A H0 H ra va Po Q k0 k e va' h q => by
  unfold fInt at h
  have va'' := va'.s
  split at h
  · rename_i i h1
    rw [h1] at va''
    cases va''
    exact .inl ⟨_, rfl, q _ _ H h .refl k (.int _)⟩
  · rename_i i h1
    rw [h1] at va''
    cases va''
    exact .inr ⟨_, rfl, q _ _ H h .refl k (.int _)⟩
  · exact h.elim
def f2I (g : Int → Int → Int) : FA := fun rs Q => match rs with | [.p (.int i), .p (.int j)] => Q (.p (.int (g i j))) | _ => False
theorem c_2I {g : Int → Int → Int} : CoreA K (f2I g) (fun xs H Q => ∃ i j, xs = [.int i, .int j] ∧ Q (.int (g i j)) H) := by
  intro B A H0 H rs vs Po Q k0 k e va h q
  unfold f2I at h
  split at h
  · cases va with
    | cons a _ t =>
      cases a
      cases t with
      | cons b _ t =>
        cases b; cases t
        exact ⟨_, _, rfl, q _ _ H h .refl k (.int _)⟩
  · exact h.elim
def fRepr : F1 := fun r Q => match r.dat with | some d => ShowOk d ∧ Q (.p (.str d.shown)) | none => False
theorem c_repr : CoreA K (f1 fRepr) (rReprA K) := core_1 fun B A H0 H ra va Po Q k0 k e va' h q => by
  unfold fRepr at h
  split at h
  · rename_i d h1
    exact ⟨va, d, rfl, va'.dp h1, h.1, q _ _ H h.2 .refl k (.str _)⟩
  · exact h.elim
end
/-! ### isinstance, sorted sets, slices, chains, lists of ranges -/
section
variable {Y : Cx} {X : Vx}
def isInt : D → Bool | .int _ => true | .bool _ => true | _ => false
def isBool : D → Bool | .bool _ => true | _ => false
def isStr : D → Bool | .str _ => true | _ => false
def isTup : D → Bool | .tuple _ => true | _ => false
def isList : D → Bool | .list _ => true | _ => false
theorem kit_all (ty : String) (g : D → Bool) (h0 : kitB "NoneType" ty = some (g .none)) (h1 : ∀ b, kitB "bool" ty = some (g (.bool b))) (h2 : ∀ i, kitB "int" ty = some (g (.int i))) (h3 : ∀ x, kitB "str" ty = some (g (.str x))) (h4 : ∀ l, kitB "list" ty = some (g (.list l))) (h5 : ∀ l, kitB "tuple" ty = some (g (.tuple l))) (h6 : ∀ l, kitB "dict" ty = some (g (.dict l))) (d : D) : kitB (tyD d) ty = some (g d) := by
  cases d <;> first | exact h0 | exact h1 _ | exact h2 _ | exact h3 _ | exact h4 _ | exact h5 _ | exact h6 _
theorem kit_int (d : D) : kitB (tyD d) "int" = some (isInt d) := kit_all _ _ (show kitB "NoneType" "int" = some false by decide +kernel) (fun _ => show kitB "bool" "int" = some true by decide +kernel) (fun _ => show kitB "int" "int" = some true by decide +kernel) (fun _ => show kitB "str" "int" = some false by decide +kernel) (fun _ => show kitB "list" "int" = some false by decide +kernel) (fun _ => show kitB "tuple" "int" = some false by decide +kernel) (fun _ => show kitB "dict" "int" = some false by decide +kernel) d
theorem kit_bool (d : D) : kitB (tyD d) "bool" = some (isBool d) := kit_all _ _ (show kitB "NoneType" "bool" = some false by decide +kernel) (fun _ => show kitB "bool" "bool" = some true by decide +kernel) (fun _ => show kitB "int" "bool" = some false by decide +kernel) (fun _ => show kitB "str" "bool" = some false by decide +kernel) (fun _ => show kitB "list" "bool" = some false by decide +kernel) (fun _ => show kitB "tuple" "bool" = some false by decide +kernel) (fun _ => show kitB "dict" "bool" = some false by decide +kernel) d
theorem kit_str (d : D) : kitB (tyD d) "str" = some (isStr d) := kit_all _ _ (show kitB "NoneType" "str" = some false by decide +kernel) (fun _ => show kitB "bool" "str" = some false by decide +kernel) (fun _ => show kitB "int" "str" = some false by decide +kernel) (fun _ => show kitB "str" "str" = some true by decide +kernel) (fun _ => show kitB "list" "str" = some false by decide +kernel) (fun _ => show kitB "tuple" "str" = some false by decide +kernel) (fun _ => show kitB "dict" "str" = some false by decide +kernel) d
theorem kit_tup (d : D) : kitB (tyD d) "tuple" = some (isTup d) := kit_all _ _ (show kitB "NoneType" "tuple" = some false by decide +kernel) (fun _ => show kitB "bool" "tuple" = some false by decide +kernel) (fun _ => show kitB "int" "tuple" = some false by decide +kernel) (fun _ => show kitB "str" "tuple" = some false by decide +kernel) (fun _ => show kitB "list" "tuple" = some false by decide +kernel) (fun _ => show kitB "tuple" "tuple" = some true by decide +kernel) (fun _ => show kitB "dict" "tuple" = some false by decide +kernel) d
theorem kit_list (d : D) : kitB (tyD d) "list" = some (isList d) := kit_all _ _ (show kitB "NoneType" "list" = some false by decide +kernel) (fun _ => show kitB "bool" "list" = some false by decide +kernel) (fun _ => show kitB "int" "list" = some false by decide +kernel) (fun _ => show kitB "str" "list" = some false by decide +kernel) (fun _ => show kitB "list" "list" = some true by decide +kernel) (fun _ => show kitB "tuple" "list" = some false by decide +kernel) (fun _ => show kitB "dict" "list" = some false by decide +kernel) d
def eIsi (g : D → Bool) (T : WE) : WE := fun ρ Q Ex => T ρ (fun r => match r with
  | .p d => Q (.p (.bool (g d)))
  | .o d => Q (.p (.bool (g d)))
  | .b (.L _) => Q (.p (.bool (g (.list []))))
  | .k (.L _) => Q (.p (.bool (g (.list []))))
  | .f (.L _) => Q (.p (.bool (g (.list []))))
  | _ => False) Ex
theorem ve_isi {e : Expr} {T : WE} {ty : String} {g : D → Bool} (hk : ∀ d, kitB (tyD d) ty = some (g d)) (h : PE Y e (tCB (rIsi X.K) (tCons (liftE X T) (tCons (tC (.ty ty)) tNil)))) : PE Y e (liftE X (eIsi g T)) := peV h fun σ H Q ⟨B, A, ρ, R, Po, Ex, h, xl, q⟩ => by
  refine ⟨B, A, ρ, R, _, Ex, h, xl, fun r v H1 p1 e1 k1 r1 => ?_⟩
  have fin : ∀ {d : D} {b : Bool}, TyX X.K H1 v (.type (tyD d)) → b = g d → Po (.p (.bool b)) → rIsi X.K [v, .ty ty] H1 Q := fun {d b} t hb hp => by
    subst hb
    exact ⟨v, .ty ty, _, _, _, rfl, .ty _, t, kit_ty (hk d), q _ _ H1 hp e1 k1 (.bl _)⟩
  have lst : ∀ {ds : List D}, rm H1 B.P (.L ds) v → Po (.p (.bool (g (.list [])))) → rIsi X.K [v, .ty ty] H1 Q := fun {ds} ⟨a, vs, e2, l, t⟩ hp => by
    subst e2
    exact fin (d := .list []) (SqL.tyL (.of l.1)) rfl hp
  split at p1
  · exact fin (Dp.ty (Pu.dp r1)) rfl p1
  · exact fin (Dp.ty (Da.dp r1)) rfl p1
  · exact lst (r1.m R.pool rfl) p1
  · exact lst (r1.m R.pool rfl) p1
  · exact lst (r1.m R.pool rfl) p1
  · exact p1.elim
/-- sorted(set(l)) -/
def eSortSet (T : WE) : WE := fun ρ Q Ex => T ρ (fun r => ∃ ns : List Int, r.m = some (.L (ns.map PyData.int)) ∧ ∃ L : List Int, (∀ k ∈ ns, k ∈ L) ∧ L.length < 64 ∧ ns.length ≤ 4000 ∧ ∀ ms : List Int, ms.Pairwise (· < ·) → (∀ k, k ∈ ms ↔ k ∈ ns) → Q (.f (.L (ms.map PyData.int)))) Ex
theorem ve_sortset {e : Expr} {T : WE} {w : World} (h : PE Y e (tCB (rSortedSetL w) (tCons (tCB (rSetI X.K w) (tCons (liftE X T) tNil)) tNil))) : PE Y e (liftE X (eSortSet T)) := peV h fun σ H Q ⟨B, A, ρ, R, Po, Ex, h, xl, q⟩ => by
  refine ⟨B, A, ρ, R, _, Ex, h, xl, fun r v H1 p1 e1 k1 r1 => ?_⟩
  obtain ⟨ns, h1, L, h2, h3, h4, h5⟩ := p1
  obtain ⟨a, rfl, hs⟩ := ints_m R.pool r1 h1
  refine ⟨a, ns, rfl, hs, h4, fun p c hp hc => ⟨p, _, c, L, rfl, upd_same, fun k hk => h2 k (of_decide_eq_true hk), h3, fun ms b hm hk hb => ?_⟩⟩
  have e2 : Ext [] H1 (upd H1 p (SetO w p (fun j => decide (j ∈ ns)) c)) := .new hp
  have e12 := e1.trans (e2.mono fun _ z => nomatch z)
  have k2 := k1.ext e2 (by simp)
  exact q _ _ _ (h5 ms hm fun k => by rw [hk, decide_eq_true_eq]) (e12.put2 hb) (k2.nw hb) (own_new R.pool k2 e12 hb (puA_ints ms))
/-- a < b <= c -/
theorem lift_chain {F G : F2} {r r' : R2} {TA TB TC : WE} (c1 : Core2 X.K F r) (c2 : Core2 X.K G r') : ∀ σ H Q, liftE X (eChain F G TA TB TC) σ H Q → tChain r r' (liftE X TA) (liftE X TB) (liftE X TC) σ H Q := by
  rintro σ H Q ⟨B, A, ρ, R, Po, Ex, h, xl, q⟩
  refine ⟨B, A, ρ, R, _, Ex, h, xl, fun ra va H1 p1 e1 k1 r1 => ⟨B, A, ρ, R.step e1 k1, _, Ex, p1, xl, fun rb vb H2 p2 e2 k2 r2 => ?_⟩⟩
  have r2' := r2.back e1 k1
  refine c1 B A H H2 ra rb va vb _ _ R.pool k2 (e1.trans e2) (r1.ext e2 k1 R.pool) r2' p2 fun z v H3 hz e3 k3 rz => ?_
  split at hz
  · rename_i kk
    cases rz
    refine ⟨kk, rfl, ?_⟩
    have e13 := (e1.trans e2).trans e3
    cases kk with
    | false =>
      rw [if_neg Bool.false_ne_true] at hz
      exact iteF (q _ _ H3 hz e13 k3 (.bl _))
    | true =>
      rw [if_pos rfl] at hz
      refine iteT ⟨B, A, ρ, R.step e13 k3, _, Ex, hz, xl, fun rc vc H4 p4 e4 k4 r4 => ?_⟩
      have e34 := e3.trans e4
      exact c2 B A H H4 rb rc vb vc Po Q R.pool k4 (e13.trans e4) (r2'.ext e34 k2 R.pool) (r4.back e13 k3) p4 fun r v H' hp e k z => q r v H' hp ((e13.trans e4).trans e) k z
  · exact hz.elim
theorem ve_chain {op op' : CmpOp} {F G : F2} {r r' : R2} {a b c : Expr} {TA TB TC : WE} {pos : Pos} (ho : OpR Y (compareOp op) r) (c1 : Core2 X.K F r) (ho' : OpR Y (compareOp op') r') (c2 : Core2 X.K G r') (ha : PE Y a (liftE X TA)) (hb : PE Y b (liftE X TB)) (hc : PE Y c (liftE X TC))
    (hm : lastMarks [op, op'] [b, c] = false := by with_unfolding_all rfl) : PE Y (.Compare a [op, op'] [b, c] pos) (liftE X (eChain F G TA TB TC)) := peV (pe_chain ho ho' ha hb hc hm) (lift_chain c1 c2)
theorem vt_chain {op op' : CmpOp} {F G : F2} {r r' : R2} {a b c : Expr} {TA TB TC : WE} {pos : Pos} (ho : OpR Y (compareOp op) r) (c1 : Core2 X.K F r) (ho' : OpR Y (compareOp op') r') (c2 : Core2 X.K G r') (ha : PE Y a (liftE X TA)) (hb : PE Y b (liftE X TB)) (hc : PE Y c (liftE X TC))
    (hm : lastMarks [op, op'] [b, c] = false := by with_unfolding_all rfl) : PT Y (.Compare a [op, op'] [b, c] pos) (liftT X (tBo (eChain F G TA TB TC))) := ptW (pt_chain ho ho' ha hb hc hm) fun σ H Q h => lift_chain c1 c2 σ H _ (by
      obtain ⟨B, A, ρ, R, Po, Ex, h, xl, q⟩ := h
      refine ⟨B, A, ρ, R, _, Ex, h, xl, fun r v H1 p1 e1 k1 r1 => ?_⟩
      split at p1
      · cases r1
        exact ⟨_, rfl, q _ H1 p1 e1 k1⟩
      · exact p1.elim)
/-- list(range(n)) -/
def eListRg (T : WE) : WE := fun ρ Q Ex => T ρ (fun r => match r with | .p (.int n) => (-(2 ^ 62) ≤ n ∧ n ≤ 2 ^ 24) ∧ Q (.f (.L ((List.range n.toNat).map fun i : Nat => .int (i : Int)))) | _ => False) Ex
theorem ve_listRg {e : Expr} {T : WE} (h : PE Y e (tLstRg (tRg1 (liftE X T)))) : PE Y e (liftE X (eListRg T)) := peV h fun σ H Q ⟨B, A, ρ, R, Po, Ex, h, xl, q⟩ => by
  refine ⟨B, A, ρ, R, _, Ex, h, xl, fun r v H1 p1 e1 k1 r1 => ?_⟩
  split at p1
  · rename_i n
    cases r1
    have h1 : -(2 ^ 62) ≤ n := p1.1.1
    have h2 : n ≤ 2 ^ 24 := p1.1.2
    refine ⟨n, rfl, ⟨by omega, by omega, by omega, by omega, by omega⟩, fun p hp => ?_⟩
    refine q _ _ _ p1.2 (e1.put2 hp) (k1.nw hp) (own_new R.pool k1 e1 hp ?_)
    unfold rgV
    rw [Int.sub_zero]
    have : ∀ l : List Nat, PuA H1 (l.map fun i : Nat => V.int (0 + (i : Int))) (l.map fun i : Nat => PyData.int (i : Int)) := by
      intro l
      induction l with
      | nil => exact .nil
      | cons i l ih =>
        refine .cons ?_ ih
        show Pu H1 (.int (0 + (i : Int))) (.int (i : Int))
        rw [Int.zero_add]
        exact .int _
    exact this _
  · exact p1.elim
/-! ### slices -/
abbrev WO := Env' → (Option Int → Prop) → Exn → Prop
def liftO (X : Vx) (T : WO) : TO := fun σ H Q => ∃ B A ρ, Rep X.K B A H σ ρ ∧ ∃ Po Ex, T ρ Po Ex ∧ XLink X B Ex ∧ ∀ r H', Po r → Ext B.P H H' → PoolOk B.PP H' → Q r H'
def oNo : WO := fun _ Q _ => Q none
def oSo (T : WE) : WO := fun ρ Q Ex => T ρ (fun r => match r with | .p (.int i) => Q (some i) | _ => False) Ex
theorem poV {e : Option Expr} {t t' : TO} (h : PO Y e t) (w : ∀ σ H Q, t' σ H Q → t σ H Q) : PO Y e t' := ⟨fun pins s σ H Q I q => h.run pins s σ H Q I (w σ H Q q)⟩
theorem vo_none : PO Y none (liftO X oNo) := poV po_none fun σ H Q ⟨B, A, ρ, R, Po, Ex, h, xl, q⟩ => q none H h .refl R.pool
theorem vo_some {e : Expr} {T : WE} (h : PE Y e (liftE X T)) : PO Y (some e) (liftO X (oSo T)) := poV (po_some h) fun σ H Q ⟨B, A, ρ, R, Po, Ex, h, xl, q⟩ => by
  refine ⟨B, A, ρ, R, _, Ex, h, xl, fun r v H1 p1 e1 k1 r1 => ?_⟩
  split at p1
  · cases r1
    exact ⟨_, rfl, q _ H1 p1 e1 k1⟩
  · exact p1.elim
/-- the items of xs[lo:hi] -/
def cutD {α : Type} (xs : List α) (lo hi : Option Int) : List α := (xs.drop (HT.sIx xs.length 0 lo)).take (HT.sIx xs.length xs.length hi - HT.sIx xs.length 0 lo)
theorem PuA.cut {H : Hp} {vs : List V} {ds : List D} (h : PuA H vs ds) (lo hi : Option Int) : PuA H (cutV vs lo hi) (cutD ds lo hi) := by
  unfold cutV cutD
  rw [h.len]
  exact (h.drop _).take _
theorem cut_whole {α : Type} {xs : List α} {lo hi : Option Int} (h : HT.sIx xs.length 0 lo = 0 ∧ HT.sIx xs.length xs.length hi = xs.length) : cutD xs lo hi = xs := by
  unfold cutD
  rw [h.1, h.2]
  simp
theorem lift_slT {TA : WE} {TL TH : WO} : ∀ σ H Q, liftE X (fun ρ Q Ex => TA ρ (fun r => TL ρ (fun lo => TH ρ (fun hi => match r with | .p (.tuple ds) => Q (.p (.tuple (cutD ds lo hi))) | _ => False) Ex) Ex) Ex) σ H Q → tSl (rSlAZ X.K) (liftE X TA) (liftO X TL) (liftO X TH) σ H Q := by
  rintro σ H Q ⟨B, A, ρ, R, Po, Ex, h, xl, q⟩
  refine ⟨B, A, ρ, R, _, Ex, h, xl, fun ra va H1 p1 e1 k1 r1 => ⟨B, A, ρ, R.step e1 k1, _, Ex, p1, xl, fun lo H2 p2 e2 k2 => ⟨B, A, ρ, (R.step e1 k1).step e2 k2, _, Ex, p2, xl, fun hi H3 p3 e3 k3 => ?_⟩⟩⟩
  have r3 := r1.ext (e2.trans e3) k1 R.pool
  have e13 := (e1.trans e2).trans e3
  split at p3
  · cases r3 with
    | @tup a vs ds z t =>
      refine ⟨a, vs, rfl, z.sq, fun hw => ?_, fun hw p H' hp hn => ?_⟩
      · rw [t.len] at hw
        rw [cut_whole hw] at p3
        exact q _ _ H3 p3 e13 k3 (.tup z t)
      · obtain ⟨z1, z2⟩ := new_tup hp (t.cut lo hi) hn
        exact q _ _ H' p3 (e13.trans (z2.mono fun _ z => nomatch z)) (k3.ext z2 (by simp)) z1
  · exact p3.elim
def eSlT (TA : WE) (TL TH : WO) : WE := fun ρ Q Ex => TA ρ (fun r => TL ρ (fun lo => TH ρ (fun hi => match r with | .p (.tuple ds) => Q (.p (.tuple (cutD ds lo hi))) | _ => False) Ex) Ex) Ex
theorem ve_slT {e : Expr} {lo hi : Option Expr} {p2 pos : Pos} {TA : WE} {TL TH : WO} (he : PE Y e (liftE X TA)) (hl : PO Y lo (liftO X TL)) (hu : PO Y hi (liftO X TH)) (hr : SlR Y (rSlAZ X.K)) : PE Y (.Subscript e (.Slice lo hi none p2) pos) (liftE X (eSlT TA TL TH)) := peV (pe_slice hr he hl hu) lift_slT
def eSlL (TA : WE) (TL TH : WO) : WE := fun ρ Q Ex => TA ρ (fun r => TL ρ (fun lo => TH ρ (fun hi => match r.m with | some (.L ds) => Q (.f (.L (cutD ds lo hi))) | _ => False) Ex) Ex) Ex
theorem lift_slL {TA : WE} {TL TH : WO} : ∀ σ H Q, liftE X (eSlL TA TL TH) σ H Q → tSl (rSlL X.K) (liftE X TA) (liftO X TL) (liftO X TH) σ H Q := by
  rintro σ H Q ⟨B, A, ρ, R, Po, Ex, h, xl, q⟩
  refine ⟨B, A, ρ, R, _, Ex, h, xl, fun ra va H1 p1 e1 k1 r1 => ⟨B, A, ρ, R.step e1 k1, _, Ex, p1, xl, fun lo H2 p2 e2 k2 => ⟨B, A, ρ, (R.step e1 k1).step e2 k2, _, Ex, p2, xl, fun hi H3 p3 e3 k3 => ?_⟩⟩⟩
  have r3 := r1.ext (e2.trans e3) k1 R.pool
  have e13 := (e1.trans e2).trans e3
  split at p3
  · rename_i ds hm
    obtain ⟨a, vs, rfl, l, t⟩ := r3.m R.pool hm
    exact ⟨a, vs, rfl, .of l.1, fun p hp => q _ _ _ p3 (e13.put2 hp) (k3.nw hp) (own_new R.pool k3 e13 hp (t.cut lo hi))⟩
  · exact p3.elim
theorem ve_slL {e : Expr} {lo hi : Option Expr} {p2 pos : Pos} {TA : WE} {TL TH : WO} (he : PE Y e (liftE X TA)) (hl : PO Y lo (liftO X TL)) (hu : PO Y hi (liftO X TH)) (hr : SlR Y (rSlL X.K)) : PE Y (.Subscript e (.Slice lo hi none p2) pos) (liftE X (eSlL TA TL TH)) := peV (pe_slice hr he hl hu) lift_slL
end
end Nv
set_option linter.all false
namespace Nv
/-! ### books: the mathematics -/
def mvs (b : Book) (s : Nat) : State := b.getD s []
inductive Rch (b : Book) : Nat → Prop
  | zero : Rch b 0
  | step {s : Nat} {p : Nat × Nat} : Rch b s → p ∈ mvs b s → Rch b p.2
/-- a state's form, of a book with n states -/
structure StOk (n : Nat) (s : State) : Prop where
  few : s.length ≤ 5
  rise : (s.map (·.1)).Pairwise (· < ·)
  msg : ∀ p ∈ s, p.1 ≤ 99
  to : ∀ p ∈ s, p.2 < n
/-- the form of a book -/
structure FormB (b : Book) : Prop where
  one : 1 ≤ b.length
  eight : b.length ≤ 8
  st : ∀ s ∈ b, StOk b.length s
structure OkB (b : Book) : Prop extends FormB b where
  reach : ∀ s, s < b.length → Rch b s
theorem mvs_of {b : Book} {s : Nat} {x : State} (h : b[s]? = some x) : mvs b s = x := by
  unfold mvs
  rw [List.getD_eq_getElem?_getD, h]
  rfl
theorem mvs_lt {b : Book} {s : Nat} (h : s < b.length) : b[s]? = some (mvs b s) := by
  rw [mvs_of (List.getElem?_eq_getElem h)]
  exact List.getElem?_eq_getElem h
theorem mvs_mem {b : Book} {s : Nat} (h : s < b.length) : mvs b s ∈ b := List.mem_of_getElem? (mvs_lt h)
theorem mvs_out {b : Book} {s : Nat} (h : b.length ≤ s) : mvs b s = [] := by
  unfold mvs
  rw [List.getD_eq_getElem?_getD, List.getElem?_eq_none h]
  rfl
theorem FormB.ok {b : Book} (h : FormB b) {s : Nat} (hs : s < b.length) : StOk b.length (mvs b s) := h.st _ (mvs_mem hs)
theorem FormB.to {b : Book} (h : FormB b) {s : Nat} {p : Nat × Nat} (hp : p ∈ mvs b s) : p.2 < b.length := by
  by_cases hs : s < b.length
  · exact (h.ok hs).to p hp
  · rw [mvs_out (by omega)] at hp
    cases hp
/-- what meeting finds: F the states in their order -/
structure Met (b : Book) (F : List Nat) : Prop where
  nd : F.Nodup
  zero : F[0]? = some 0
  lt : ∀ s ∈ F, s < b.length
  cl : ∀ s ∈ F, ∀ p ∈ mvs b s, p.2 ∈ F
  from_ : ∀ j s, F[j]? = some s → j ≠ 0 → ∃ i s', i < j ∧ F[i]? = some s' ∧ ∃ p ∈ mvs b s', p.2 = s
def rename (b : Book) (F : List Nat) : Book := F.map fun s => (mvs b s).map fun p => (p.1, F.idxOf p.2)
theorem rename_len {b : Book} {F : List Nat} : (rename b F).length = F.length := by simp [rename]
theorem rename_at {b : Book} {F : List Nat} {j s : Nat} (h : F[j]? = some s) : mvs (rename b F) j = (mvs b s).map fun p => (p.1, F.idxOf p.2) := by
  refine mvs_of ?_
  unfold rename
  rw [List.getElem?_map, h]
  rfl
theorem idx_of {F : List Nat} (nd : F.Nodup) {j s : Nat} (h : F[j]? = some s) : F.idxOf s = j := by
  obtain ⟨hj, e⟩ := List.getElem?_eq_some_iff.mp h
  rw [← e]
  exact List.Nodup.idxOf_getElem nd j hj
theorem nodup_le {n : Nat} {F : List Nat} (nd : F.Nodup) (lt : ∀ s ∈ F, s < n) : F.length ≤ n := by
  have h := (List.nodup_range (n := n))
  have : F ⊆ List.range n := fun s hs => List.mem_range.mpr (lt s hs)
  have := List.Nodup.length_le_of_subset nd this
  simpa using this
theorem Met.okB {b : Book} {F : List Nat} (m : Met b F) (h8 : b.length ≤ 8) (hs : ∀ s, s < b.length → (mvs b s).length ≤ 5 ∧ ((mvs b s).map (·.1)).Pairwise (· < ·) ∧ ∀ p ∈ mvs b s, p.1 ≤ 99) : OkB (rename b F) := by
  have h0 : 0 < F.length := (List.getElem?_eq_some_iff.mp m.zero).1
  have hle : F.length ≤ b.length := nodup_le m.nd m.lt
  refine { one := by rw [rename_len]; exact h0, eight := by rw [rename_len]; omega, st := fun x hx => ?_, reach := fun j hj => ?_ }
  · obtain ⟨s, hsF, rfl⟩ := List.mem_map.mp hx
    obtain ⟨a1, a2, a3⟩ := hs s (m.lt s hsF)
    refine ⟨by rw [List.length_map]; exact a1, ?_, fun p hp => ?_, fun p hp => ?_⟩
    · rw [List.map_map]
      exact a2
    · obtain ⟨q, hq, rfl⟩ := List.mem_map.mp hp
      exact a3 q hq
    · obtain ⟨q, hq, rfl⟩ := List.mem_map.mp hp
      rw [rename_len]
      exact List.idxOf_lt_length_of_mem (m.cl s hsF q hq)
  · rw [rename_len] at hj
    have key : ∀ n, ∀ j, j ≤ n → j < F.length → Rch (rename b F) j := by
      intro n
      induction n with
      | zero =>
        intro j h1 _
        have e : j = 0 := by omega
        rw [e]
        exact .zero
      | succ n ih =>
        intro j h1 h2
        by_cases e : j = 0
        · subst e; exact .zero
        · obtain ⟨i, s', hi, hs', p, hp, ep⟩ := m.from_ j F[j] (List.getElem?_eq_getElem h2) e
          have r := ih i (by omega) (by omega)
          have : (p.1, F.idxOf p.2) ∈ mvs (rename b F) i := by
            rw [rename_at hs']
            exact List.mem_map.mpr ⟨p, hp, rfl⟩
          have r2 := Rch.step r this
          have e2 : F.idxOf p.2 = j := idx_of m.nd (by rw [ep]; exact List.getElem?_eq_getElem h2)
          rw [e2] at r2
          exact r2
    exact key j j (Nat.le_refl _) hj
/-! ### meeting, step by step -/
structure MetI (b : Book) (F : List Nat) (i : Nat) : Prop where
  nd : F.Nodup
  zero : F[0]? = some 0
  lt : ∀ s ∈ F, s < b.length
  from_ : ∀ j s, F[j]? = some s → j ≠ 0 → ∃ i s', i < j ∧ F[i]? = some s' ∧ ∃ p ∈ mvs b s', p.2 = s
  le : i ≤ F.length
  cl : ∀ j s, j < i → F[j]? = some s → ∀ p ∈ mvs b s, p.2 ∈ F
structure MetW (b : Book) (F : List Nat) (i s k : Nat) : Prop extends MetI b F i where
  here : F[i]? = some s
  part : ∀ p ∈ (mvs b s).take k, p.2 ∈ F
theorem MetI.first {b : Book} (h : 1 ≤ b.length) : MetI b [0] 0 where
  nd := by simp
  zero := rfl
  lt := fun s hs => by simp at hs; omega
  from_ := fun j s h n => by
    have := (List.getElem?_eq_some_iff.mp h).1
    simp at this
    omega
  le := by simp
  cl := fun j s h => by omega
theorem MetI.begin {b : Book} {F : List Nat} {i s : Nat} (m : MetI b F i) (h : F[i]? = some s) : MetW b F i s 0 := { m with here := h, part := fun p hp => by simp at hp }
theorem MetW.skip {b : Book} {F : List Nat} {i s k : Nat} {p : Nat × Nat} (m : MetW b F i s k) (h : (mvs b s)[k]? = some p) (hp : p.2 ∈ F) : MetW b F i s (k + 1) := { m with
  part := fun q hq => by
    rw [List.take_add_one, h] at hq
    rcases List.mem_append.mp hq with hq | hq
    · exact m.part q hq
    · simp at hq
      rw [hq]
      exact hp }
theorem MetW.push {b : Book} {F : List Nat} {i s k : Nat} {p : Nat × Nat} (m : MetW b F i s k) (h : (mvs b s)[k]? = some p) (hp : p.2 ∉ F) (hb : p.2 < b.length) : MetW b (F ++ [p.2]) i s (k + 1) := by
  have old : ∀ {j x : Nat}, F[j]? = some x → (F ++ [p.2])[j]? = some x := fun {j x} e => by
    rw [List.getElem?_append_left (List.getElem?_eq_some_iff.mp e).1]
    exact e
  refine { nd := ?_, zero := old m.zero, lt := fun x hx => ?_, from_ := fun j x e n => ?_, le := ?_, cl := fun j x hj e q hq => ?_, here := old m.here, part := fun q hq => ?_ }
  · rw [List.nodup_append]
    refine ⟨m.nd, by simp, fun a ha c hc => ?_⟩
    simp at hc
    rw [hc]
    exact fun z => hp (z ▸ ha)
  · rcases List.mem_append.mp hx with hx | hx
    · exact m.lt x hx
    · simp at hx
      rw [hx]
      exact hb
  · by_cases hj : j < F.length
    · rw [List.getElem?_append_left hj] at e
      obtain ⟨i', s', h1, h2, h3⟩ := m.from_ j x e n
      exact ⟨i', s', h1, old h2, h3⟩
    · rw [List.getElem?_append_right (by omega)] at e
      have hz : j - F.length = 0 := by
        have := (List.getElem?_eq_some_iff.mp e).1
        simp at this
        omega
      rw [hz] at e
      cases e
      have hi := (List.getElem?_eq_some_iff.mp m.here).1
      exact ⟨i, s, by omega, old m.here, p, List.mem_of_getElem? h, rfl⟩
  · rw [List.length_append]
    have := m.le
    omega
  · have hjF : j < F.length := by
      have := m.le
      omega
    rw [List.getElem?_append_left hjF] at e
    exact List.mem_append_left _ (m.cl j x hj e q hq)
  · rw [List.take_add_one, h] at hq
    rcases List.mem_append.mp hq with hq | hq
    · exact List.mem_append_left _ (m.part q hq)
    · simp at hq
      rw [hq]
      simp
theorem MetW.done {b : Book} {F : List Nat} {i s k : Nat} (m : MetW b F i s k) (hk : (mvs b s).length ≤ k) : MetI b F (i + 1) := { m with
  le := (List.getElem?_eq_some_iff.mp m.here).1
  cl := fun j x hj e q hq => by
    by_cases hji : j < i
    · exact m.cl j x hji e q hq
    · have : j = i := by omega
      subst this
      rw [m.here] at e
      cases e
      exact m.part q (by rw [List.take_of_length_le hk]; exact hq) }
theorem MetI.met {b : Book} {F : List Nat} {i : Nat} (m : MetI b F i) (h : i = F.length ∨ i = b.length) : Met b F := { m with
  cl := fun s hs p hp => by
    obtain ⟨j, hj, e⟩ := List.mem_iff_getElem.mp hs
    have : F.length ≤ i := by
      rcases h with h | h
      · omega
      · rw [h]
        exact nodup_le m.nd m.lt
    exact m.cl j s (by omega) (by rw [List.getElem?_eq_getElem hj, e]) p hp }
end Nv
set_option linter.all false
namespace Nv
/-! ### the order in which states are met -/
def addS (F : List Nat) : State → List Nat
  | [] => F
  | p :: r => addS (if p.2 ∈ F then F else F ++ [p.2]) r
def stB (b : Book) : Nat → List Nat
  | 0 => [0]
  | i + 1 => match (stB b i)[i]? with
    | some s => addS (stB b i) (mvs b s)
    | none => stB b i
def ordB (b : Book) : List Nat := stB b b.length
theorem addS_append : ∀ (l r : State) (F : List Nat), addS F (l ++ r) = addS (addS F l) r
  | [], _, _ => rfl
  | p :: l, r, F => by
    show addS _ (l ++ r) = addS (addS _ l) r
    exact addS_append l r _
theorem addS_take {F G : List Nat} {p : Nat × Nat} {ms : State} {k : Nat} (h : ms[k]? = some p) (e : F = addS G (ms.take k)) : addS G (ms.take (k + 1)) = if p.2 ∈ F then F else F ++ [p.2] := by
  rw [List.take_add_one, h]
  show addS G (ms.take k ++ [p]) = _
  rw [addS_append, ← e]
  rfl
theorem addS_pre : ∀ (l : State) (F : List Nat), F <+: addS F l
  | [], F => List.prefix_refl _
  | p :: l, F => by
    show F <+: addS (if p.2 ∈ F then F else F ++ [p.2]) l
    split
    · exact addS_pre l F
    · exact (List.prefix_append _ _).trans (addS_pre l _)
theorem stB_step {b : Book} {i s : Nat} (h : (stB b i)[i]? = some s) : stB b (i + 1) = addS (stB b i) (mvs b s) := by
  show (match (stB b i)[i]? with
    | some s => addS (stB b i) (mvs b s)
    | none => stB b i) = _
  rw [h]
theorem stB_rest {b : Book} {i : Nat} (h : (stB b i).length ≤ i) : ∀ k, stB b (i + k) = stB b i
  | 0 => rfl
  | k + 1 => by
    have ih := stB_rest h k
    show (match (stB b (i + k))[i + k]? with
      | some s => addS (stB b (i + k)) (mvs b s)
      | none => stB b (i + k)) = _
    rw [ih, List.getElem?_eq_none (by omega)]
theorem stB_pre {b : Book} (i : Nat) : ∀ k, stB b i <+: stB b (i + k)
  | 0 => List.prefix_refl _
  | k + 1 => by
    refine (stB_pre i k).trans ?_
    show stB b (i + k) <+: (match (stB b (i + k))[i + k]? with
      | some s => addS (stB b (i + k)) (mvs b s)
      | none => stB b (i + k))
    split
    · exact addS_pre _ _
    · exact List.prefix_refl _
theorem stB_end {b : Book} {i : Nat} (h : (stB b i).length ≤ i) (hi : i ≤ b.length) : ordB b = stB b i := by
  obtain ⟨k, hk⟩ := Nat.le.dest hi
  unfold ordB
  rw [← hk]
  exact stB_rest h k
structure MetIO (b : Book) (F : List Nat) (i : Nat) : Prop extends MetI b F i where
  eq : F = stB b i
structure MetWO (b : Book) (F : List Nat) (i s k : Nat) : Prop extends MetW b F i s k where
  eq : F = addS (stB b i) ((mvs b s).take k)
structure MetO (b : Book) (F : List Nat) : Prop extends Met b F where
  eq : F = ordB b
theorem MetIO.first {b : Book} (h : 1 ≤ b.length) : MetIO b [0] 0 := ⟨.first h, rfl⟩
theorem MetIO.begin {b : Book} {F : List Nat} {i s : Nat} (m : MetIO b F i) (h : F[i]? = some s) : MetWO b F i s 0 := ⟨m.toMetI.begin h, by rw [m.eq]; rfl⟩
theorem MetWO.skip {b : Book} {F : List Nat} {i s k : Nat} {p : Nat × Nat} (m : MetWO b F i s k) (h : (mvs b s)[k]? = some p) (hp : p.2 ∈ F) : MetWO b F i s (k + 1) := ⟨m.toMetW.skip h hp, by rw [addS_take h m.eq, if_pos hp]⟩
theorem MetWO.push {b : Book} {F : List Nat} {i s k : Nat} {p : Nat × Nat} (m : MetWO b F i s k) (h : (mvs b s)[k]? = some p) (hp : p.2 ∉ F) (hb : p.2 < b.length) : MetWO b (F ++ [p.2]) i s (k + 1) := ⟨m.toMetW.push h hp hb, by rw [addS_take h m.eq, if_neg hp]⟩
theorem MetWO.pre {b : Book} {F : List Nat} {i s k : Nat} (m : MetWO b F i s k) : stB b i <+: F := by
  rw [m.eq]
  exact addS_pre _ _
theorem stB_len (b : Book) : ∀ i, 1 ≤ (stB b i).length
  | 0 => Nat.le_refl _
  | i + 1 => by
    have h := (stB_pre (b := b) i 1).length_le
    have := stB_len b i
    show 1 ≤ (stB b (i + 1)).length
    omega
theorem MetWO.done {b : Book} {F : List Nat} {i s k : Nat} (m : MetWO b F i s k) (g : (stB b i)[i]? = some s) (hk : (mvs b s).length ≤ k) : MetIO b F (i + 1) := ⟨m.toMetW.done hk, by
  rw [stB_step g, m.eq, List.take_of_length_le hk]⟩
theorem MetIO.met {b : Book} {F : List Nat} {i : Nat} (m : MetIO b F i) (h : i = F.length) : MetO b F := ⟨m.toMetI.met (.inl h), by
  rw [stB_end (i := i) (by rw [← m.eq]; omega) (by rw [h]; exact nodup_le m.nd m.lt)]
  exact m.eq⟩
theorem metOR {b : Book} (one : 1 ≤ b.length) (to : ∀ s, ∀ p ∈ mvs b s, p.2 < b.length) : MetO b (ordB b) := by
  have row : ∀ {F : List Nat} {i s : Nat}, MetIO b F i → F[i]? = some s → ∀ k, k ≤ (mvs b s).length → ∃ F', MetWO b F' i s k := by
    intro F i s mi hs k
    induction k with
    | zero => exact fun _ => ⟨F, mi.begin hs⟩
    | succ k ih =>
      intro hk
      obtain ⟨F', mw⟩ := ih (by omega)
      have hp : (mvs b s)[k]? = some (mvs b s)[k] := List.getElem?_eq_getElem (by omega)
      by_cases hin : (mvs b s)[k].2 ∈ F'
      · exact ⟨F', mw.skip hp hin⟩
      · exact ⟨_, mw.push hp hin (to _ _ (List.getElem_mem _))⟩
  have all : ∀ n, ∃ i F, MetIO b F i ∧ (i = F.length ∨ i = n) := by
    intro n
    induction n with
    | zero => exact ⟨0, [0], .first one, .inr rfl⟩
    | succ n ih =>
      obtain ⟨i, F, mi, h⟩ := ih
      by_cases hi : i < F.length
      · have hs : F[i]? = some F[i] := List.getElem?_eq_getElem hi
        obtain ⟨F', mw⟩ := row mi hs _ (Nat.le_refl _)
        have g : (stB b i)[i]? = some F[i] := by rw [← mi.eq]; exact hs
        refine ⟨i + 1, F', mw.done g (Nat.le_refl _), .inr ?_⟩
        omega
      · have := mi.le
        exact ⟨i, F, mi, .inl (by omega)⟩
  obtain ⟨i, F, mi, h⟩ := all b.length
  have h1 : F.length ≤ b.length := nodup_le mi.nd mi.lt
  have h2 := mi.le
  have mo := mi.met (by omega)
  rw [mo.eq] at mo
  exact mo
theorem metO {b : Book} (fb : FormB b) : MetO b (ordB b) := metOR fb.one fun _ _ h => fb.to h
theorem ren_okB {b : Book} (fb : FormB b) : OkB (rename b (ordB b)) :=
  (metO fb).toMet.okB fb.eight fun s hs => ⟨(fb.ok hs).few, (fb.ok hs).rise, (fb.ok hs).msg⟩
/-! ### the book by its own numbers -/
theorem ren_in {F G : List Nat} (nd : F.Nodup) (pre : G <+: F) {x : Nat} (hx : x ∈ F) : F.idxOf x ∈ List.range G.length ↔ x ∈ G := by
  obtain ⟨R, rfl⟩ := pre
  rw [List.mem_range]
  constructor
  · intro h
    by_cases hG : x ∈ G
    · exact hG
    · rw [List.idxOf_append, if_neg hG] at h
      omega
  · intro h
    rw [List.idxOf_append, if_pos h]
    exact List.idxOf_lt_length_of_mem h
theorem addS_ren {F : List Nat} (nd : F.Nodup) : ∀ (ms : State) (G : List Nat), addS G ms <+: F → (∀ p ∈ ms, p.2 ∈ F) → addS (List.range G.length) (ms.map fun p => (p.1, F.idxOf p.2)) = List.range (addS G ms).length
  | [], _, _, _ => rfl
  | p :: r, G, pre, hF => by
    have pre0 : addS (if p.2 ∈ G then G else G ++ [p.2]) r <+: F := pre
    have preG : G <+: F := (addS_pre (p :: r) G).trans pre
    have hp := hF p (List.mem_cons_self ..)
    have ih := addS_ren nd r (if p.2 ∈ G then G else G ++ [p.2]) pre0 fun q hq => hF q (List.mem_cons_of_mem _ hq)
    show addS (if F.idxOf p.2 ∈ List.range G.length then List.range G.length else List.range G.length ++ [F.idxOf p.2]) (r.map fun p => (p.1, F.idxOf p.2)) = List.range (addS (if p.2 ∈ G then G else G ++ [p.2]) r).length
    rw [← ih]
    by_cases h : p.2 ∈ G
    · rw [if_pos ((ren_in nd preG hp).mpr h), if_pos h]
    · rw [if_neg (fun z => h ((ren_in nd preG hp).mp z)), if_neg h]
      have pre1 : G ++ [p.2] <+: F := by
        rw [if_neg h] at pre0
        exact (addS_pre _ _).trans pre0
      obtain ⟨R, rfl⟩ := pre1
      have e : (G ++ [p.2] ++ R).idxOf p.2 = G.length := by
        rw [List.append_assoc, List.idxOf_append, if_neg h]
        simp
      rw [e, List.length_append, List.length_singleton, List.range_succ]
theorem stB_ren {b : Book} {F : List Nat} (m : MetO b F) (hm : ∀ s ∈ F, ∀ p ∈ mvs b s, p.2 ∈ F) : ∀ i, stB (rename b F) i = List.range (stB b i).length
  | 0 => rfl
  | i + 1 => by
    have ih := stB_ren m hm i
    have pre : stB b (i + 1) <+: F := by
      rw [m.eq]
      by_cases h : i + 1 ≤ b.length
      · obtain ⟨k, hk⟩ := Nat.le.dest h
        unfold ordB
        rw [← hk]
        exact stB_pre _ _
      · have hl : (ordB b).length ≤ b.length := by rw [← m.eq]; exact nodup_le m.nd m.lt
        obtain ⟨k, hk⟩ := Nat.le.dest (show b.length ≤ i + 1 by omega)
        have := stB_rest (b := b) (i := b.length) hl k
        rw [← hk, this]
        exact List.prefix_refl _
    have pre0 : stB b i <+: F := (stB_pre i 1).trans pre
    cases hs : (stB b i)[i]? with
    | none =>
      have hl := List.getElem?_eq_none_iff.mp hs
      have e1 := stB_rest (b := b) hl 1
      have e2 := stB_rest (b := rename b F) (i := i) (by rw [ih, List.length_range]; exact hl) 1
      rw [e1, e2, ih]
    | some s =>
      have hl := (List.getElem?_eq_some_iff.mp hs).1
      have hF : F[i]? = some s := by
        obtain ⟨R, rfl⟩ := pre0
        rw [List.getElem?_append_left hl]
        exact hs
      have hsF := List.mem_of_getElem? hF
      rw [stB_step hs] at pre ⊢
      have hr : (stB (rename b F) i)[i]? = some i := by rw [ih, List.getElem?_range hl]
      rw [stB_step hr, rename_at hF, ih]
      exact addS_ren m.nd _ _ pre fun p hp => hm s hsF p hp
theorem ren_self {b : Book} {F : List Nat} (m : MetO b F) : ordB (rename b F) = List.range F.length ∧ rename (rename b F) (List.range F.length) = rename b F := by
  have e : ordB (rename b F) = List.range F.length := by
    have h := stB_ren m m.cl
    have hl : F.length ≤ b.length := nodup_le m.nd m.lt
    have hF : stB b F.length = F := by
      have hpre : stB b F.length <+: F := by
        rw [m.eq]
        obtain ⟨k, hk⟩ := Nat.le.dest (show (ordB b).length ≤ b.length by rw [← m.eq]; exact hl)
        have := stB_pre (b := b) (ordB b).length k
        rw [hk] at this
        exact this
      -- at F.length all is met
      have : ∀ i, i ≤ F.length → i < (stB b i).length ∨ stB b i = F := by
        intro i hi
        by_cases hc : (stB b i).length ≤ i
        · refine .inr ?_
          rw [m.eq, stB_end hc (by omega)]
        · exact .inl (by omega)
      rcases this F.length (Nat.le_refl _) with h1 | h1
      · have := hpre.length_le
        omega
      · exact h1
    show stB (rename b F) (rename b F).length = _
    rw [rename_len, h, hF]
  refine ⟨e, ?_⟩
  refine List.ext_getElem? fun k => ?_
  unfold rename
  rw [List.getElem?_map]
  by_cases hk : k < F.length
  · rw [List.getElem?_range hk, List.getElem?_map, List.getElem?_eq_getElem hk]
    have hF : F[k]? = some F[k] := List.getElem?_eq_getElem hk
    show some ((mvs (rename b F) k).map fun p => (p.1, (List.range F.length).idxOf p.2)) = some ((mvs b F[k]).map fun p => (p.1, F.idxOf p.2))
    rw [rename_at hF, List.map_map]
    refine congrArg some (List.map_congr_left fun p hp => ?_)
    have hm := m.cl _ (List.getElem_mem hk) p hp
    have hlt := List.idxOf_lt_length_of_mem hm
    show (p.1, (List.range F.length).idxOf (F.idxOf p.2)) = (p.1, F.idxOf p.2)
    rw [idx_of List.nodup_range (List.getElem?_range hlt)]
  · rw [List.getElem?_eq_none (by rw [List.length_range]; omega), List.getElem?_map, List.getElem?_eq_none (by omega)]
    rfl
end Nv
set_option Elab.async false
set_option linter.all false
set_option maxRecDepth 100000
/-! the value layer: several names set at once, comprehensions as expressions, x in l -/
namespace Nv
open PySem PySem.Spec PyProof.Rows L2
/-! ### a, b = x, y -/
/-- values that are pure or new (their addresses among F), made in turn behind H0 -/
inductive VRF (H : Hp) (F : List Addr) : Hp → List V → List Vl → Prop
  | nil {H0} : VRF H F H0 [] []
  | p {H0 v d vs rs} : Pu H v d → VRF H F H0 vs rs → VRF H F H0 (v :: vs) (.p d :: rs)
  | f {H0 H1 v m L vs rs} : own H m L v → (∀ a ∈ L, H0 a = none ∧ H1 a ≠ none ∧ a ∈ F) → (∀ a, H1 a = none → H0 a = none) → VRF H F H1 vs rs → VRF H F H0 (v :: vs) (.f m :: rs)
theorem VRF.mono {H : Hp} {F G : List Addr} {H0 : Hp} {vs : List V} {rs : List Vl} (h : VRF H F H0 vs rs) (s : ∀ a ∈ F, a ∈ G) : VRF H G H0 vs rs := by
  induction h with
  | nil => exact .nil
  | p h _ ih => exact .p h ih
  | f h n b _ ih => exact .f h (fun a z => ⟨(n a z).1, (n a z).2.1, s a (n a z).2.2⟩) b ih
theorem VRF.back {H : Hp} {F : List Addr} {H0 H1 : Hp} {vs : List V} {rs : List Vl} (h : VRF H F H1 vs rs) (b : ∀ a, H1 a = none → H0 a = none) : VRF H F H0 vs rs := by
  induction h with
  | nil => exact .nil
  | p h _ ih => exact .p h (ih b)
  | f h n b' t _ => exact .f h (fun a z => ⟨b a (n a z).1, (n a z).2⟩) (fun a z => b a (b' a z)) t
/-- all set in turn -/
def parN : List Nat → List Vl → Env' → (Env' → Prop) → Prop
  | [], [], ρ, N => N ρ
  | i :: is, .p d :: rs, ρ, N => parN is rs (ρ.set i (.im d)) N
  | i :: is, .f m :: rs, ρ, N => parN is rs (ρ.set i (.mu m)) N
  | _, _, _, _ => False
def setsL (σ : L2.St) : List Nat → List V → L2.St
  | i :: is, v :: vs => setsL (σ.set i (some v)) is vs
  | _, _ => σ
section
variable {K : PySem.W.Frag} {B : Bs} {A : List Addr} {H H1 : Hp} {N : Env' → Prop}
theorem VRA.vrf : ∀ {is : List Nat} {rs : List Vl} {vs : List V} {H0 : Hp} {ρ : Env'}, VRA K B A H1 H0 vs rs → (∀ a, H0 a = none → H a = none) → parN is rs ρ N → is.length = vs.length ∧ ∃ F, (∀ a ∈ F, H a = none) ∧ VRF H1 F H0 vs rs
  | [], [], _, _, _, h, _, _ => by cases h; exact ⟨rfl, [], by simp, .nil⟩
  | i :: is, .p d :: rs, _, _, _, h, b, n => by
    cases h with
    | cons h1 b1 t =>
      obtain ⟨l, F, f1, f2⟩ := VRA.vrf t (fun a z => b a (b1 a z)) (show parN is rs _ N from n)
      exact ⟨by simp [l], F, f1, .p h1 (f2.back b1)⟩
  | i :: is, .f m :: rs, _, _, _, h, b, n => by
    cases h with
    | cons h1 b1 t =>
      obtain ⟨l, F, f1, f2⟩ := VRA.vrf t (fun a z => b a (b1 a z)) (show parN is rs _ N from n)
      obtain ⟨L, o1, o2⟩ := h1
      exact ⟨by simp [l], L ++ F, fun a z => (List.mem_append.mp z).elim (fun z => b a (o2 a z).1) (f1 a), .f o1 (fun a z => ⟨(o2 a z).1, (o2 a z).2, List.mem_append_left _ z⟩) b1 (f2.mono fun a z => List.mem_append_right _ z)⟩
  | [], .p _ :: _, _, _, _, _, _, n => n.elim
  | [], .o _ :: _, _, _, _, _, _, n => n.elim
  | [], .b _ :: _, _, _, _, _, _, n => n.elim
  | [], .k _ :: _, _, _, _, _, _, n => n.elim
  | [], .f _ :: _, _, _, _, _, _, n => n.elim
  | [], .pl :: _, _, _, _, _, _, n => n.elim
  | _ :: _, [], _, _, _, _, _, n => n.elim
  | _ :: _, .o _ :: _, _, _, _, _, _, n => n.elim
  | _ :: _, .b _ :: _, _, _, _, _, _, n => n.elim
  | _ :: _, .k _ :: _, _, _, _, _, _, n => n.elim
  | _ :: _, .pl :: _, _, _, _, _, _, n => n.elim
theorem VRF.sets {T F : List Addr} : ∀ {is : List Nat} {vs : List V} {rs : List Vl} {H0 : Hp} {σ : L2.St} {ρ : Env'} {A1 : List Addr}, VRF H1 F H0 vs rs → Rl K B T H1 σ ρ A1 → (∀ a ∈ A1, H0 a ≠ none) → (∀ a ∈ A1, a ∈ A ∨ a ∈ F) → parN is rs ρ N → ∃ ρ' A2, N ρ' ∧ (∀ a ∈ A2, a ∈ A ∨ a ∈ F) ∧ Rl K B T H1 (setsL σ is vs) ρ' A2
  | [], _, _, _, σ, ρ, A1, .nil, R, _, s, n => ⟨ρ, A1, n, s, R⟩
  | i :: is, _, _, _, σ, ρ, A1, .p h t, R, c, s, n => by
    obtain ⟨A2, q1, q2⟩ := R.put (.im h) i (by simp)
    have sub : ∀ a ∈ A2, a ∈ A1 := fun a z => (q1 a z).elim id fun z => nomatch z
    exact t.sets q2 (fun a z => c a (sub a z)) (fun a z => s a (sub a z)) n
  | i :: is, _, _, _, σ, ρ, A1, .f h o b t, R, c, s, n => by
    obtain ⟨A2, q1, q2⟩ := R.put (.mu h) i fun a z w => c a w (o a z).1
    exact t.sets q2 (fun a z => (q1 a z).elim (fun w x => c a w (b a x)) fun w => (o a w).2.1) (fun a z => (q1 a z).elim (s a) fun w => .inr (o a w).2.2) n
theorem Rep.sets {σ : L2.St} {ρ : Env'} {is : List Nat} {vs : List V} {rs : List Vl} (R : Rep K B A H σ ρ) (e : Ext B.P H H1) (k : PoolOk B.PP H1) (h : VRA K B A H1 H vs rs) (n : parN is rs ρ N) : is.length = vs.length ∧ ∃ ρ' A', N ρ' ∧ Rep K B A' H1 (setsL σ is vs) ρ' := by
  obtain ⟨l, F, f1, f2⟩ := h.vrf (fun _ z => z) n
  refine ⟨l, ?_⟩
  have r1 : Rl K B (F ++ (A ++ B.P)) H σ ρ A := R.rl.off fun a z => (List.mem_append.mp z).elim (fun z => .inr (f1 a z)) .inl
  have r2 : Rl K B (F ++ (A ++ B.P)) H1 σ ρ A := r1.ext e R.pool.lsts (fun a z => List.mem_append_right _ (List.mem_append_right _ z)) R.pnew
  obtain ⟨ρ', A', n', s, r3⟩ := f2.sets (A := A) r2 (fun a z => R.lsts.some z) (fun a z => .inl z) n
  have sub : ∀ a ∈ A', a ∈ A ∨ H a = none := fun a z => (s a z).imp id (f1 a)
  refine ⟨ρ', A', n', r3.off fun a z => .inl ?_, R.ext.trans e, fun a z => (sub a z).elim (R.new a) R.sub, k, R.pool0, R.s0, fun z hz => z.ext (GR.off' (R.gh z hz) sub) e R.pool.lsts fun a w => List.mem_append_right _ w⟩
  rcases List.mem_append.mp z with z | z
  · exact (s a z).elim (fun z => List.mem_append_right _ (List.mem_append_left _ z)) fun z => List.mem_append_left _ z
  · exact List.mem_append_right _ (List.mem_append_right _ z)
end
section
variable {Y : Cx} {X : Vx}
def sPar (is : List Nat) (T : WA) : WS := fun ρ E Ex => T ρ (fun rs => parN is rs ρ E.nx) Ex
theorem vs_par {st : Stmt} {i j : Nat} {T : WA} (h : PS Y st (tPar i j (liftA X T))) : PS Y st (liftS X (sPar [i, j] T)) := psV h fun D σ H ⟨B, A, ρ, R, E, Ex, h, xl, l⟩ => by
  refine ⟨B, A, ρ, R, _, Ex, h, xl, fun rs vs H1 p1 e1 k1 r1 => ?_⟩
  obtain ⟨len, ρ', A', n, R'⟩ := R.sets e1 k1 r1 p1
  match vs, len with
  | [v, w], _ => exact ⟨v, w, rfl, l.nx ρ' A' _ H1 n R'⟩
theorem vs_par3 {st : Stmt} {i j k : Nat} {T : WA} (h : PS Y st (tPar3 i j k (liftA X T))) : PS Y st (liftS X (sPar [i, j, k] T)) := psV h fun D σ H ⟨B, A, ρ, R, E, Ex, h, xl, l⟩ => by
  refine ⟨B, A, ρ, R, _, Ex, h, xl, fun rs vs H1 p1 e1 k1 r1 => ?_⟩
  obtain ⟨len, ρ', A', n, R'⟩ := R.sets e1 k1 r1 p1
  match vs, len with
  | [v, w, x], _ => exact ⟨v, w, x, rfl, l.nx ρ' A' _ H1 n R'⟩
/-- names as targets -/
def gNs : List Nat → TGs
  | [] => gNil
  | i :: is => gCons (gName i) (gNs is)
theorem gNs_run {H : Hp} {Q : L2.St → Hp → Prop} : ∀ {is : List Nat} {vs : List V} {σ : L2.St}, is.length = vs.length → Q (setsL σ is vs) H → gNs is vs σ H Q
  | [], [], _, _, h => ⟨rfl, h⟩
  | i :: is, v :: vs, σ, l, h => ⟨v, vs, rfl, gNs_run (is := is) (by simpa using l) h⟩
  | [], _ :: _, _, l, _ => by cases l
  | _ :: _, [], _, l, _ => by cases l
/-- the same by way of a tuple -/
theorem vs_parT {st : Stmt} {is : List Nat} {T : WA} {n : Nat} (hn : is.length = n) (h : PS Y st (tAsg (tTup (liftA X T)) (gTup X.K n (gNs is)))) (hs : n ≤ 1000) : PS Y st (liftS X (sPar is T)) := psV h fun D σ H ⟨B, A, ρ, R, E, Ex, h, xl, l⟩ => by
  refine ⟨B, A, ρ, R, _, Ex, h, xl, fun rs vs H1 p1 e1 k1 r1 => ?_⟩
  have len := (R.sets e1 k1 r1 p1).1
  refine ⟨by rw [← len, hn]; exact sl1000 hs, fun p hp => ?_⟩
  have e2 : Ext [] H1 (upd H1 p (.tup vs)) := .new hp
  have r2 : VRA X.K B A (upd H1 p (.tup vs)) H vs rs := by
    have : ∀ {rs : List Vl} {G : Hp} {vs : List V} {o : HO}, (∀ a ∈ B.P, G a ≠ none) → VRA X.K B A H1 G vs rs → VRA X.K B A (upd H1 p o) G vs rs := by
      intro rs
      induction rs with
      | nil => intro G vs o _ h; cases h; exact .nil
      | cons r rs ih =>
        intro G vs o hG h
        cases h with
        | cons h b t =>
          refine .cons ?_ b (ih (fun a z w => hG a z (b a w)) t)
          have e3 : Ext [] H1 (upd H1 p o) := .new hp
          cases r with
          | p d => exact Pu.ext e3 .nil h
          | o d => exact Da.ext e3 .nil (by simp) h
          | b m => exact rm.ext e3 .nil (by simp) h
          | k m => exact rm.ext e3 .nil (by simp) h
          | pl => exact h
          | f m =>
            obtain ⟨L, h1, h2⟩ := h
            exact ⟨L, h1.ext e3 .nil (by simp), h2⟩
    exact this (fun a z => R.pool.lsts.some z) r1
  obtain ⟨_, ρ', A', n', R'⟩ := R.sets (e1.put2 hp) (k1.nw hp) r2 p1
  exact ⟨p, vs, rfl, .of upd_same, by rw [← len, hn], gNs_run len (l.nx ρ' A' _ _ n' R')⟩
/-- targets of what an expression gives -/
def sAsg (T : WE) (G : WG) : WS := fun ρ E Ex => T ρ (fun r => match r with
  | .p d => G (.one (.p d)) ρ E.nx
  | .o d => G (.one (.o d)) ρ E.nx
  | .k m => G (.one (.k m)) ρ E.nx
  | _ => False) Ex
theorem vs_asg {st : Stmt} {T : WE} {G : WG} {js : List Nat} (h : PS Y st (tAsg (liftE X T) (liftG X G js))) : PS Y st (liftS X (sAsg T G)) := psV h fun D σ H ⟨B, A, ρ, R, E, Ex, h, xl, l⟩ => by
  refine ⟨B, A, ρ, R, _, Ex, h, xl, fun r v H1 p1 e1 k1 r1 => ?_⟩
  have fin : ∀ {q : Vl}, IVr X.K B.S0 (A ++ B.P) H1 v q → G (.one q) ρ E.nx → liftG X G js v σ H1 D.nx := fun hq hp => ⟨B, A, ρ, .one _, R.step e1 k1, hq, _, hp, fun ρ' A' σ' n _ R' _ => l.nx ρ' A' σ' H1 n R'⟩
  split at p1
  · exact fin (q := .p _) r1 p1
  · exact fin (q := .o _) r1 p1
  · exact fin (q := .k _) r1 p1
  · exact p1.elim
/-! ### comprehensions -/
theorem ve_lc {e : Expr} {T : WI} {G : WG} {C : WT} {U : WE} {vs js : List Nat} {tt : TT} (h : PE Y e (tLc (liftI X T) (liftG X G js) tt (liftE X U) vs)) (ht : ∀ σ H Q, liftT X C σ H Q → tt σ H Q) (hj : ∀ j ∈ js, j ∈ vs) : PE Y e (liftE X (eLc T G C U vs)) := peV h (lift_lc hj ht)
theorem vs_setOf {st : Stmt} {i : Nat} {te : TE} {T : WE} (h : PS Y st (tAsg te (gName i))) (w : ∀ σ H Q, liftE X T σ H Q → te σ H Q) : PS Y st (liftS X (sSet i T)) := psV h fun D σ H hs => by
  have := lift_set D σ H hs
  exact w _ _ _ this
/-- what slot i owns is read alone while the expression goes on -/
def eFz (i : Nat) (T : WE) : WE := fun ρ Q Ex => match sg ρ i with
  | .mu m => T (ρ.set i (.rd m)) (fun r => match r with | .p d => Q (.p d) | .f m => Q (.f m) | _ => False) Ex
  | _ => T ρ Q Ex
theorem lift_fz {X : Vx} {i : Nat} {T : WE} : ∀ σ H Q, liftE X (eFz i T) σ H Q → liftE X T σ H Q := by
  rintro σ H Q ⟨B, A, ρ, R, Po, Ex, h, xl, q⟩
  unfold eFz at h
  split at h
  · obtain ⟨A', R'⟩ := R.freeze ‹_›
    refine ⟨B, A', _, R', _, Ex, h, xl, fun r v H' hr e k hv => ?_⟩
    split at hr
    · exact q _ v H' hr e k hv
    · exact q _ v H' hr e k hv
    · exact hr.elim
  · exact ⟨B, A, ρ, R, Po, Ex, h, xl, q⟩
theorem ve_fz {Y : Cx} {X : Vx} {e : Expr} {T : WE} (i : Nat) (h : PE Y e (liftE X T)) : PE Y e (liftE X (eFz i T)) := peV h lift_fz
theorem mid_test {C : WT} : ∀ σ H Q, liftT X C σ H Q → tMidT (liftT X C) σ H Q := fun σ H Q h => ⟨Q, h, fun _ _ z => z⟩
/-! ### x in l, of numbers -/
def fInI (neg : Bool) : F2 := fun a b Q => match a.s with
  | .p (.int i) => ∃ ns : List Int, (b = .p (.tuple (ns.map PyData.int)) ∨ b.m = some (.L (ns.map PyData.int))) ∧ Q (.p (.bool (if neg = true then !decide (i ∈ ns) else decide (i ∈ ns))))
  | _ => False
theorem inV_int (i : Int) (ns : List Int) : inV (.int i) (ns.map V.int) = decide (i ∈ ns) := by
  unfold inV
  rw [List.any_map]
  by_cases h : i ∈ ns
  · rw [decide_eq_true h, List.any_eq_true]
    exact ⟨i, h, by simp [eqV]⟩
  · rw [decide_eq_false h, List.any_eq_false]
    intro x hx
    simp only [Function.comp, eqV, beq_iff_eq]
    exact fun e => h (e ▸ hx)
theorem flat_int (ns : List Int) : (ns.map V.int).all flatV = true := by
  rw [List.all_eq_true]
  intro v hv
  obtain ⟨n, _, rfl⟩ := List.mem_map.mp hv
  rfl
theorem inI_core {K : PySem.W.Frag} (neg : Bool) : Core2 K (fInI neg) (rIn K neg) := by
  intro B A H0 H ra rb va vb Po Q k0 k e va' vb' h q
  unfold fInI at h
  have va'' := va'.s
  split at h
  · rename_i i h1
    rw [h1] at va''
    cases va''
    obtain ⟨ns, hb, hp⟩ := h
    have seq : ∃ p, vb = .ref p ∧ (SqL K H p (ns.map V.int) ∨ SqT K H p (ns.map V.int)) := by
      rcases hb with rfl | hb
      · cases vb' with
        | tup z t => exact ⟨_, rfl, .inr (by rw [← t.ints]; exact z.sq)⟩
      · obtain ⟨a, rfl, hs⟩ := ints_m k0 vb' hb
        exact ⟨a, rfl, .inl hs⟩
    obtain ⟨p, rfl, hs⟩ := seq
    refine ⟨p, _, rfl, hs, rfl, flat_int ns, ?_⟩
    rw [inV_int]
    cases neg
    · exact q _ _ H hp .refl k (.bl _)
    · exact q _ _ H hp .refl k (.bl _)
  · exact h.elim
theorem c_inI {K : PySem.W.Frag} : Core2 K (fInI false) (rIn K false) := inI_core false
theorem c_notInI {K : PySem.W.Frag} : Core2 K (fInI true) (rIn K true) := inI_core true
/-! ### {k: v} -/
def eDisp1 (TK TV : WE) : WE := fun ρ Q Ex => TK ρ (fun a => TV ρ (fun b => match a, b with | .p e, .p d => ∃ k, keyD e = some k ∧ Q (.f (.DK [(k, d)])) | _, _ => False) Ex) Ex
theorem ve_disp1 {e : Expr} {TK TV : WE} (h : PE Y e (tDisp [(liftE X TK, liftE X TV)])) : PE Y e (liftE X (eDisp1 TK TV)) := peV h fun σ H Q ⟨B, A, ρ, R, Po, Ex, h, xl, q⟩ p hp => by
  have e0 : Ext [] H (upd H p (.dK [])) := .new hp
  have k0 := R.pool.nw (o := .dK []) hp
  have pP : p ∉ B.P := fun z => R.pool.lsts.some z hp
  refine ⟨B, A, ρ, R.step (e0.mono fun _ z => nomatch z) k0, _, Ex, h, xl, fun ra va H1 p1 e1 k1 r1 => ⟨B, A, ρ, (R.step (e0.mono fun _ z => nomatch z) k0).step e1 k1, _, Ex, p1, xl, fun rb vb H2 p2 e2 k2 r2 => ?_⟩⟩
  have hp2 : H2 p = some (.dK []) := e2 _ _ pP (e1 _ _ pP upd_same)
  split at p2
  · rename_i e d
    obtain ⟨k, hk, p2⟩ := p2
    have ek := keyD_ok r1 hk
    subst ek
    refine ⟨hp2, [(k, vb)], rfl, (by show 1 ≤ 15; decide), ?_⟩
    have e3 : Ext [p] H2 (upd H2 p (.dK (mergeK [] [(k, vb)]))) := .wr (by simp)
    have eall : Ext B.P H (upd H2 p (.dK (mergeK [] [(k, vb)]))) := Ext.put' ((e0.mono fun _ z => nomatch z).trans (e1.trans e2)) hp
    refine q _ _ _ p2 eall (k2.ext e3 (one_notP pP) (noX_d hp2)) ⟨[p], ⟨p, [(k, vb)], rfl, rfl, upd_same, rfl, .cons (Pu.ext e3 (one_dk hp2) r2) .nil⟩, fun a z => by rw [List.mem_singleton.mp z]; exact hp⟩
  · exact p2.elim
end
end Nv
set_option Elab.async false
set_option linter.all false
set_option maxRecDepth 100000
/-! a dict's comprehension over a walk; dicts from numbers to numbers -/
namespace Nv
open PySem PySem.Spec PyProof.Rows L2
theorem dc_it {J : It} {n : Nat} {G : Hp → Prop} {Y : Nat → Hp → V → Hp → Prop} (w : Walk J n G Y) {g : TG} {tt : TT} {tk tv : TE} {vs : List Nat} {σ : L2.St} {H1 : Hp} {D : Addr} {Qd : Hp → Prop} (Pv : Nat → Hp → Prop) (h0 : Pv 0 (upd H1 D (.dK []))) (hG : ∀ i H, i ≤ n → Pv i H → G H)
    (hs : ∀ i x H H', i < n → Pv i H → Y i H x H' → g x (wipe σ vs) H' fun σ2 H2 => wipe σ2 vs = wipe σ vs ∧ tt σ2 H2 fun b H3 =>
      if b = true then tk σ2 H3 fun y H4 => tv σ2 H4 fun z H5 => ∃ kvs k, y = kV k ∧ H5 D = some (.dK kvs) ∧ kvs.length < sizeLine ∧ Pv (i + 1) (upd H5 D (.dK (putK kvs k z))) else Pv (i + 1) H3) (hd : ∀ H, Pv n H → Qd H) :
    ∃ W : Nat → Nat → Hp → Prop, (∃ m, W 0 m (upd H1 D (.dK []))) ∧ ∀ i m H, W i m H →
      (J.stop i H ∧ Qd H) ∨ (J.go i H ∧ ∃ Nx : Hp → Prop, (∀ H', Nx H' → ∃ m', m' < m ∧ W (i + 1) m' H') ∧ ∀ x H', J.yld i H x H' → g x (wipe σ vs) H' fun σ2 H2 => wipe σ2 vs = wipe σ vs ∧ tt σ2 H2 fun b H3 =>
        if b = true then tk σ2 H3 fun y H4 => tv σ2 H4 fun z H5 => ∃ kvs k, y = kV k ∧ H5 D = some (.dK kvs) ∧ kvs.length < sizeLine ∧ Nx (upd H5 D (.dK (putK kvs k z))) else Nx H3) := by
  refine ⟨fun i m H => m = n - i ∧ i ≤ n ∧ Pv i H, ⟨n, by simp, Nat.zero_le _, h0⟩, ?_⟩
  rintro i m H ⟨rfl, hi, p⟩
  have q := hG i H hi p
  by_cases hlt : i < n
  · refine .inr ⟨w.goes i H hlt q, Pv (i + 1), fun H' p' => ⟨n - (i + 1), by omega, rfl, hlt, p'⟩, fun x H' y => hs i x H H' hlt p (w.yields i H x H' hlt q y)⟩
  · have e : i = n := by omega
    subst e
    exact .inl ⟨w.stops H q, hd H p⟩
/-- the dict that gives each state of F its place there -/
abbrev placesK (F : List Nat) : List (Key × V) := F.zipIdx.map fun p => (kN p.1, nV p.2)
theorem placesK_snoc {F : List Nat} {s : Nat} : placesK (F ++ [s]) = placesK F ++ [(kN s, nV F.length)] := by
  unfold placesK
  rw [List.zipIdx_append, List.map_append]
  simp
theorem placesK_keys {F : List Nat} : (placesK F).map (·.1) = F.map kN := by
  unfold placesK
  rw [List.map_map]
  have : (F.zipIdx.map ((fun x => x.1) ∘ fun p : Nat × Nat => (kN p.1, nV p.2))) = (F.zipIdx.map (·.1)).map kN := by rw [List.map_map]; rfl
  rw [this, List.zipIdx_map_fst]
theorem placesK_len {F : List Nat} : (placesK F).length = F.length := by simp [placesK]
theorem kN_injD {a b : Nat} (h : kN a = kN b) : a = b := by
  have := Sum.inl.inj h
  omega
/-- a new key goes to the end -/
theorem placesK_put {F : List Nat} {s : Nat} (h : s ∉ F) : putK (placesK F) (kN s) (nV F.length) = placesK (F ++ [s]) := by
  rw [placesK_snoc]
  have hf : valV (placesK F) (kN s) = none := by
    have := valV_key (placesK_keys (F := F)) s
    rw [decide_eq_false h] at this
    cases e : valV (placesK F) (kN s) with
    | none => rfl
    | some z => rw [e] at this; cases this
  exact putK_new _ hf
theorem placesK_val {F : List Nat} (nd : F.Nodup) {s : Nat} (h : s ∈ F) : valV (placesK F) (kN s) = some (nV (F.idxOf s)) := by
  have hs := valV_key (placesK_keys (F := F)) s
  rw [decide_eq_true h] at hs
  obtain ⟨v, hv⟩ := Option.isSome_iff_exists.mp hs
  have hm := valV_mem hv
  obtain ⟨p, hp, e⟩ := List.mem_map.mp hm
  have e1 : kN p.1 = kN s := congrArg Prod.fst e
  have e2 : nV p.2 = v := congrArg Prod.snd e
  have e3 := kN_injD e1
  obtain ⟨i, hi, hie⟩ := List.mem_iff_getElem.mp hp
  rw [List.getElem_zipIdx] at hie
  have hi' : i < F.length := by simpa using hi
  have a1 : F[i] = p.1 := congrArg Prod.fst hie
  have a2 : 0 + i = p.2 := congrArg Prod.snd hie
  have : F.idxOf s = i := by
    rw [← e3, ← a1]
    exact List.Nodup.idxOf_getElem nd i hi'
  rw [hv, ← e2, this, ← a2, Nat.zero_add]
end Nv
set_option Elab.async false
set_option linter.all false
set_option maxRecDepth 100000
/-! the value layer: dicts that are walked, dicts made by comprehensions, lists of lists and dicts made so -/
namespace Nv
open PySem PySem.Spec PyProof.Rows L2
/-! ### a thing is locked for good -/
section
variable {Y : Cx} {X : Vx} {K : PySem.W.Frag} {B : Bs} {A : List Addr} {H0 H H' : Hp} {σ : L2.St} {ρ : Env'}
def tLkV (t : TE) : TE := fun σ H Q => t σ H fun x H1 => Q x H1 ∨ ∃ d u, x = .ref d ∧ H1 d = some u ∧ Mut (some u) ∧ ∀ od, Q x (upd H1 d (.frz od u))
theorem pe_lockV {e : Expr} {t : TE} (h : PE Y e t) : PE Y e (tLkV t) := by
  refine ⟨fun pins s σ H Q I hw => ?_⟩
  refine thn (h.run pins s σ H _ I hw) fun v s1 ⟨x, H1, I1, r, q⟩ => ?_
  rcases q with q | ⟨d, u, rfl, hd, mu, q⟩
  · exact ⟨x, H1, I1, r, q⟩
  · obtain ⟨od, I2⟩ := I1.lock hd mu
    exact ⟨_, _, I2, r, q od⟩
inductive LkC (P : Hp → Prop) : Hp → Prop
  | done {H : Hp} : P H → LkC P H
  | step {H : Hp} {a : Addr} {u : HO} : H a = some u → Mut (some u) → (∀ od, LkC P (upd H a (.frz od u))) → LkC P H
theorem LkC.bind {P Q : Hp → Prop} {H : Hp} (h : LkC P H) (w : ∀ H, P H → LkC Q H) : LkC Q H := by
  induction h with
  | done h => exact w _ h
  | step h1 h2 _ ih => exact .step h1 h2 ih
def tLkS (t : TS) : TS := fun D σ H => LkC (fun H' => t D σ H') H
theorem ps_lkS {st : Stmt} {t : TS} (h : PS Y st t) : PS Y st (tLkS t) := by
  refine ⟨fun pins s σ H D I hw => ?_⟩
  induction hw with
  | done hw => exact h.run pins s σ _ D I hw
  | step hd mu _ ih =>
    obtain ⟨od, I2⟩ := I.lock hd mu
    exact ih od I2
mutual
def lkM : M → M
  | .L ds => .L ds
  | .LL ms => .LL (lkMA ms)
  | .DK kvs => .FK kvs
  | .FK kvs => .FK kvs
def lkMA : List M → List M
  | [] => []
  | m :: ms => lkM m :: lkMA ms
end
theorem Ext.app {X1 X2 : List Addr} {H1 H2 H3 : Hp} (e1 : Ext X1 H1 H2) (e2 : Ext X2 H2 H3) : Ext (X1 ++ X2) H1 H3 := fun b o n q => e2 b o (fun z => n (List.mem_append_right _ z)) (e1 b o (fun z => n (List.mem_append_left _ z)) q)
mutual
theorem own_lk : ∀ {m : M} {L : List Addr} {v : V} {H : Hp}, own H m L v → LkC (fun H' => Ext L H H' ∧ ∀ S : List Addr, (∀ a ∈ L, a ∉ S) → rm H' S (lkM m) v) H
  | .L ds, L, v, H, h => .done ⟨.refl, fun S n => h.rm n⟩
  | .FK _, _, _, _, h => h.elim
  | .DK kvs, L, v, H, ⟨a, ks, e1, e2, h, e3, p⟩ => by
    subst e1 e2
    refine .step h trivial fun od => .done ?_
    have e : Ext [a] H (upd H a (.frz od (.dK ks))) := .wr (by simp)
    exact ⟨e, fun S n => ⟨a, od, ks, rfl, upd_same, n a (by simp), e3, p.ext e (one_dk h)⟩⟩
  | .LL ms, L, v, H, ⟨a, vs, C, e1, e2, e3, h, t⟩ => by
    subst e1 e2
    exact (ownA_lk t).bind fun H' ⟨e, r⟩ => .done ⟨e.mono fun x z => List.mem_cons_of_mem _ z, fun S n => ⟨a, vs, rfl, ⟨e _ _ e3 h, n a (by simp)⟩, r S fun x z => n x (List.mem_cons_of_mem _ z)⟩⟩
theorem ownA_lk : ∀ {ms : List M} {L : List Addr} {vs : List V} {H : Hp}, ownA H ms L vs → LkC (fun H' => Ext L H H' ∧ ∀ S : List Addr, (∀ a ∈ L, a ∉ S) → rmA H' S (lkMA ms) vs) H
  | [], L, vs, H, ⟨e1, e2⟩ => .done ⟨.refl, fun S n => e2⟩
  | m :: ms, L, vs, H, ⟨C, D, v, ws, e1, e2, d, h, t⟩ => by
    subst e1 e2
    refine (own_lk h).bind fun H1 ⟨x1, r1⟩ => ?_
    have t1 : ownA H1 ms D ws := t.ext x1 (own_lsts h) fun a z w => d a w z
    refine (ownA_lk t1).bind fun H2 ⟨x2, r2⟩ => .done ⟨fun b o n q => x2 b o (fun z => n (List.mem_append_right _ z)) (x1 b o (fun z => n (List.mem_append_left _ z)) q), fun S n => ⟨v, ws, rfl, ?_, r2 S fun a z => n a (List.mem_append_right _ z)⟩⟩
    have r := (r1 (S ++ D) fun a z w => (List.mem_append.mp w).elim (n a (List.mem_append_left _ z)) (d a z)).ext x2 (ownA_lsts t1) fun a z => List.mem_append_right _ z
    exact r.off fun a z => .inl (List.mem_append_left _ z)
end
mutual
theorem own_noX : ∀ {m : M} {A : List Addr} {H : Hp} {v : V}, own H m A v → NoX A H
  | .L _, _, _, _, ⟨a, _, _, e, h, _⟩ => by subst e; exact noX_l h
  | .LL _, _, _, _, ⟨a, _, B, _, e, _, h, t⟩ => by
    subst e
    intro x hx
    rcases List.mem_cons.mp hx with rfl | hx
    · exact noX_l h _ (by simp)
    · exact ownA_noX t x hx
  | .DK _, _, _, _, ⟨a, _, _, e, h, _⟩ => by subst e; exact noX_d h
  | .FK _, _, _, _, h => h.elim
theorem ownA_noX : ∀ {ms : List M} {A : List Addr} {H : Hp} {vs : List V}, ownA H ms A vs → NoX A H
  | [], _, _, _, ⟨e, _⟩ => by subst e; exact noX_nil
  | _ :: _, _, _, _, ⟨B, C, v, ws, e, _, _, h, t⟩ => by
    subst e
    intro x hx
    rcases List.mem_append.mp hx with hx | hx
    · exact own_noX h x hx
    · exact ownA_noX t x hx
end
/-- what slot i owns is locked, and read alone from then on -/
def sLk (i : Nat) (T : WS) : WS := fun ρ E Ex => match sg ρ i with
  | .mu m => T (ρ.set i (.rd (lkM m))) E Ex
  | _ => T ρ E Ex
theorem vs_lk {st : Stmt} {T : WS} (i : Nat) (h : PS Y st (liftS X T)) : PS Y st (liftS X (sLk i T)) := psV (ps_lkS h) fun D σ H ⟨B, A, ρ, R, E, Ex, h, xl, l⟩ => by
  unfold sLk at h
  split at h
  · rename_i m em
    obtain ⟨v, L, A2, h1, h2, h3, h4, h5, h6⟩ := R.take em
    refine (own_lk h2).bind fun H' ⟨x1, r⟩ => .done ?_
    have lL := own_lsts h2
    have h7 : Rl X.K B (A ++ B.P) H' σ (ρ.set i .un) A2 := h6.ext x1 lL (fun a z => List.mem_append_left _ (h4 a z)) h3
    have h7 : Rl X.K B (A2 ++ B.P) H' σ (ρ.set i .un) A2 := h7.off fun a z => .inl ((List.mem_append.mp z).elim (fun z => List.mem_append_left _ (h5 a z)) fun z => List.mem_append_right _ z)
    obtain ⟨A', g1, g2⟩ := h7.put (o := some v) (s := .rd (lkM m)) (L := []) (.rd (r _ fun a z w => (List.mem_append.mp w).elim (h3 a z) (R.anew a (h4 a z)))) i (by simp)
    rw [set_same h1, set_set'] at g2
    have sub : ∀ a ∈ A', a ∈ A2 := fun a z => (g1 a z).elim id fun z => nomatch z
    have eP : Ext B.P B.H0 H' := fun b u nb q => x1 b u (fun w => by
      have := R.new b (h4 b w)
      rw [q] at this
      cases this) (R.ext b u nb q)
    refine ⟨B, A', _, ⟨g2.off fun a z => .inl ?_, eP, fun a z => R.new a (h5 a (sub a z)), R.pool.ext x1 (fun a z w => R.anew a (h4 a w) z) (own_noX h2), R.pool0, R.s0, fun z hz => ?_⟩, E, Ex, h, xl, l⟩
    · rcases List.mem_append.mp z with z | z
      · exact List.mem_append_left _ (sub a z)
      · exact List.mem_append_right _ z
    · exact GR.off' (z.ext (R.gh z hz) x1 lL fun a w => List.mem_append_left _ (h4 a w)) fun a w => .inl (h5 a (sub a w))
  · exact .done ⟨B, A, ρ, R, E, Ex, h, xl, l⟩
/-! ### a dict that is walked -/
def ghF (a : Addr) (o : Obj) (ks : List (Key × V)) (kvs : List (Key × D)) : Gh where
  pr T H := H a = some (.frz o (.dK ks)) ∧ a ∉ T ∧ PuA H (ks.map fun kv : Key × V => kv.2) (kvs.map fun kv : Key × D => kv.2)
  ext h e l s := ⟨e _ _ (fun z => h.2.1 (s _ z)) h.1, h.2.1, h.2.2.ext e l⟩
  off h f := ⟨h.1, fun z => (f _ z).elim h.2.1 (some_ne h.1), h.2.2⟩
def Vl.fk : Vl → Option (List (Key × D))
  | .k (.FK kvs) => some kvs
  | .f (.DK kvs) => some kvs
  | _ => none
theorem VR.fk {v : V} {r : Vl} {kvs : List (Key × D)} {Q : VK} (R : Rep K B A H0 σ ρ) (h : VR K B A H0 H v r) (e : Ext B.P H0 H) (k : PoolOk B.PP H) (er : r.fk = some kvs)
    (q : ∀ a o ks H', Ext B.P H0 H' → PoolOk B.PP H' → H' a = some (.frz o (.dK ks)) → ks.map (·.1) = kvs.map (·.1) → GR B A H' (ghF a o ks kvs) → Q (.ref a) H') : Q v H ∨ ∃ d u, v = .ref d ∧ H d = some u ∧ Mut (some u) ∧ ∀ od, Q v (upd H d (.frz od u)) := by
  unfold Vl.fk at er
  split at er
  · cases er
    obtain ⟨a, o, ks, rfl, h1, h2, h3, h4⟩ := h
    exact .inl (q a o ks H e k h1 h3 ⟨h1, h2, h4⟩)
  · cases er
    obtain ⟨L, ⟨a, ks, rfl, rfl, h1, h3, h4⟩, n⟩ := h
    refine .inr ⟨a, _, rfl, h1, trivial, fun od => ?_⟩
    have na : H0 a = none := n a (by simp)
    have e2 : Ext [a] H (upd H a (.frz od (.dK ks))) := .wr (by simp)
    have nP : a ∉ B.P := fun z => R.pool.lsts.some z na
    exact q a od ks _ (e.put' na) (k.ext e2 (one_notP nP) (noX_d h1)) upd_same h3 ⟨upd_same, fun z => (List.mem_append.mp z).elim (fun z => R.lsts.some z na) nP, h4.ext e2 (one_dk h1)⟩
  · cases er
def keyI (kvs : List (Key × D)) : List Iv := kvs.map fun kv => .one (.p (kD kv.1))
def itemI (kvs : List (Key × D)) : List Iv := kvs.map fun kv => .two (.p (kD kv.1)) (.p kv.2)
theorem keys_get {ks : List (Key × V)} {kvs : List (Key × D)} (h : ks.map (·.1) = kvs.map (·.1)) {i : Nat} {kv : Key × V} (e : ks[i]? = some kv) : ∃ d, kvs[i]? = some (kv.1, d) := by
  have : (ks.map (·.1))[i]? = some kv.1 := by rw [List.getElem?_map, e]; rfl
  rw [h, List.getElem?_map] at this
  obtain ⟨q, h1, h2⟩ := Option.map_eq_some_iff.mp this
  exact ⟨q.2, by rw [h1, ← h2]⟩
theorem iw_keys {S0 : List Addr} {a : Addr} {o : Obj} {ks : List (Key × V)} {kvs : List (Key × D)} (h : ks.map (·.1) = kvs.map (·.1)) : IW K S0 (keyI kvs) (Itk a o ks) [ghF a o ks kvs] := by
  have hl : ks.length = kvs.length := by have := congrArg List.length h; simpa using this
  refine ⟨_, _, (by unfold keyI; rw [List.length_map, ← hl]; exact walk_keys), fun T H2 q => (q (ghF a o ks kvs) (by simp)).1, ?_⟩
  rintro i T H2 x H3 q hi ⟨rfl, k, v, hk, rfl⟩
  obtain ⟨d, hd⟩ := keys_get h hk
  exact ⟨.refl, .one (.p (kD k)), by unfold keyI; rw [List.getElem?_map, hd]; rfl, pu_k k⟩
theorem iw_items {S0 : List Addr} {a : Addr} {o : Obj} {ks : List (Key × V)} {kvs : List (Key × D)} (h : ks.map (·.1) = kvs.map (·.1)) : IW K S0 (itemI kvs) (Iti a o ks) [ghF a o ks kvs] := by
  have hl : ks.length = kvs.length := by have := congrArg List.length h; simpa using this
  refine ⟨_, _, (by unfold itemI; rw [List.length_map, ← hl]; exact walk_items), fun T H2 q => (q (ghF a o ks kvs) (by simp)).1, ?_⟩
  rintro i T H2 x H3 q hi ⟨t, va, vb, rfl, ht, rfl, hv, hw⟩
  have e : Ext [] H2 (upd H2 t (.tup [va, vb])) := .new ht
  obtain ⟨⟨k, v⟩, hk, rfl⟩ := Option.map_eq_some_iff.mp hv
  have hw : ks[i]?.map Prod.snd = some vb := hw
  rw [hk] at hw
  cases hw
  obtain ⟨d, hd⟩ := keys_get h hk
  obtain ⟨_, _, pu⟩ := q _ (by simp : ghF a o ks kvs ∈ [ghF a o ks kvs])
  obtain ⟨d', h1, h2⟩ := pu.get (i := i) (v := v) (by rw [List.getElem?_map, hk]; rfl)
  rw [List.getElem?_map, hd] at h1
  cases h1
  refine ⟨e, .two (.p (kD k)) (.p d), by unfold itemI; rw [List.getElem?_map, hd]; rfl, t, kV k, v, rfl, .of upd_same, pu_k k, h2.ext e .nil⟩
def iKeysE (T : WE) : WI := fun ρ Q Ex => T ρ (fun r => match r.fk with | some kvs => Q (keyI kvs) | none => False) Ex
def iItemsE (T : WE) : WI := fun ρ Q Ex => T ρ (fun r => match r.fk with | some kvs => Q (itemI kvs) | none => False) Ex
theorem vi_keys {tg e : Expr} {T : WE} (h : PE Y e (liftE X T)) : PI Y tg e (liftI X (iKeysE T)) := piV (pi_keys (pe_lockV h)) fun σ H Q ⟨B, A, ρ, R, Po, Ex, h, xl, q⟩ => by
  refine ⟨B, A, ρ, R, _, Ex, h, xl, fun r v H1 p1 e1 k1 r1 => ?_⟩
  split at p1
  · rename_i kvs er
    refine r1.fk (Q := fun x H1 => ∃ d o, x = .ref d ∧ ((∃ kvs, H1 d = some (.frz o (.dK kvs)) ∧ Q (Itk d o kvs) H1) ∨ ∃ kvs, H1 d = some (.frz o (.dT kvs)) ∧ Q (Itkt d o kvs) H1)) R e1 k1 er fun a o ks H' e k hd hk g => ?_
    exact ⟨a, o, rfl, .inl ⟨ks, hd, q _ _ [ghF a o ks kvs] H' p1 e k (by simpa using g) (iw_keys hk)⟩⟩
  · exact p1.elim
theorem vi_items {o : Expr} {elts : List Expr} {kk : Nat} {tpos apos cpos : Pos} {T : WE} (h : PE Y o (liftE X T)) (hbase : attributeBase o "items" Y.env (eval o Y.env) = eval o Y.env := by rfl) (hline : (apos.endLine == cpos.line) = true := by rfl) : PI Y (.Tuple elts kk tpos) (.Call (.Attribute o "items" apos) [] [] cpos) (liftI X (iItemsE T)) := piV (pi_items (pe_lockV h) hbase hline) fun σ H Q ⟨B, A, ρ, R, Po, Ex, h, xl, q⟩ => by
  refine ⟨B, A, ρ, R, _, Ex, h, xl, fun r v H1 p1 e1 k1 r1 => ?_⟩
  split at p1
  · rename_i kvs er
    refine r1.fk (Q := fun x H1 => ∃ d o kvs, x = .ref d ∧ H1 d = some (.frz o (.dK kvs)) ∧ Q (Iti d o kvs) H1) R e1 k1 er fun a o ks H' e k hd hk g => ?_
    exact ⟨a, o, ks, rfl, hd, q _ _ [ghF a o ks kvs] H' p1 e k (by simpa using g) (iw_items hk)⟩
  · exact p1.elim
end
end Nv
set_option Elab.async false
set_option linter.all false
set_option maxRecDepth 100000
/-! the value layer: more of what is made and asked -/
namespace Nv
open PySem PySem.Spec PyProof.Rows L2
section
variable {Y : Cx} {X : Vx} {K : PySem.W.Frag}
/-! ### lists of what is owned, by a comprehension -/
def eLcM (T : WI) (G : WG) (C : WT) (U : WE) (vs : List Nat) : WE := fun ρ Q Ex => T ρ (fun items => items.length < sizeLine ∧ ∃ Inv : Nat → List M → Prop, Inv 0 [] ∧
  (∀ i it acc, items[i]? = some it → Inv i acc → G it (wipeE ρ vs) fun ρ2 => C ρ2 (fun b => if b = true then U ρ2 (fun r => match r with | .f m => Inv (i + 1) (acc ++ [m]) | _ => False) Ex else Inv (i + 1) acc) Ex) ∧
  ∀ acc, Inv items.length acc → Q (.f (.LL acc))) Ex
theorem lift_lcM {T : WI} {G : WG} {C : WT} {U : WE} {vs js : List Nat} {tt : TT} (hj : ∀ j ∈ js, j ∈ vs) (ht : ∀ σ H Q, liftT X C σ H Q → tt σ H Q) : ∀ σ H Q, liftE X (eLcM T G C U vs) σ H Q → tLc (liftI X T) (liftG X G js) tt (liftE X U) vs σ H Q := by
  rintro σ H Q ⟨B, A, ρ, R, Po, Ex, h, xl, q⟩
  refine ⟨B, A, ρ, R, _, Ex, h, xl, fun items J Z H1 p1 e1 k1 g1 w1 D hD => ?_⟩
  obtain ⟨small, Inv, i0, step, done⟩ := p1
  obtain ⟨Gw, Yw, walk, gw, yw⟩ := w1
  have R1 := R.step e1 k1
  have DH : H D = none := pool_back k1 e1 hD
  have DP : D ∉ B.P := fun z => k1.lsts.some z hD
  refine lc_it walk (fun i H' => ∃ acc ys Bs, H' D = some (.lst ys) ∧ ownA H' acc Bs ys ∧ D ∉ Bs ∧ (∀ a ∈ Bs, H a = none) ∧ acc.length ≤ i ∧ Inv i acc ∧ Ext B.P H1 H' ∧ PoolOk B.PP H') ⟨[], [], [], upd_same, ⟨rfl, rfl⟩, by simp, by simp, Nat.le_refl _, i0, .new hD, k1.nw hD⟩ ?_ ?_ ?_
  · rintro i H' _ ⟨_, _, _, _, _, _, _, _, _, e, k⟩
    exact gw (A ++ B.P) H' fun z hz => z.ext (g1 z hz) e k1.lsts fun a w => List.mem_append_right _ w
  · rintro i x H' H2 hi ⟨acc, ys, Bs, hy, ow, nD, fr, hl, inv, e, k⟩ y
    obtain ⟨e2, it, hit, ir⟩ := yw i (A ++ B.P) H' x H2 (fun z hz => z.ext (g1 z hz) e k1.lsts fun a w => List.mem_append_right _ w) hi y
    have k2 : PoolOk B.PP H2 := k.ext e2 (by simp)
    have e12 : Ext B.P H1 H2 := e.trans (e2.mono fun _ z => nomatch z)
    obtain ⟨A2, s2, R2⟩ := (R1.step e12 k2).wipe vs
    have hy2 := e2 _ _ (by simp) hy
    have BsP : ∀ a ∈ Bs, a ∉ B.P := fun a z w => R.pool.lsts.some w (fr a z)
    have ow2 := ow.ext e2 .nil (by simp)
    refine ⟨B, A2, _, it, R2, ?_, _, step i it acc hit inv, fun ρ3 A3 σ3 h3 s3 R3 w3 => ⟨?_, ?_⟩⟩
    · cases it with
      | one r => exact IVr.off ir fun a z => .inl ((List.mem_append.mp z).elim (fun z => List.mem_append_left _ (s2 a z)) fun z => List.mem_append_right _ z)
      | two a b =>
        obtain ⟨t, va, vb, rfl, h1, h2, h3⟩ := ir
        have f : ∀ a ∈ A2 ++ B.P, a ∈ A ++ B.P ∨ H2 a = none := fun a z => .inl ((List.mem_append.mp z).elim (fun z => List.mem_append_left _ (s2 a z)) fun z => List.mem_append_right _ z)
        exact ⟨t, va, vb, rfl, h1, h2.off f, h3.off f⟩
    · exact (w3 vs hj).trans (wipe_wipe vs)
    · refine ht _ _ _ ⟨B, A3, ρ3, R3, _, Ex, h3, xl, fun b H4 p4 e4 k4 => ?_⟩
      have e24 : Ext B.P H1 H4 := e12.trans e4
      have hy4 := e4 _ _ DP hy2
      have ow4 := ow2.ext e4 k2.lsts BsP
      cases b with
      | false =>
        rw [if_neg Bool.false_ne_true] at p4
        exact iteF ⟨acc, ys, Bs, hy4, ow4, nD, fr, by omega, p4, e24, k4⟩
      | true =>
        rw [if_pos rfl] at p4
        refine iteT ⟨B, A3, ρ3, R3.step e4 k4, _, Ex, p4, xl, fun r v H5 p5 e5 k5 r5 => ?_⟩
        split at p5
        · rename_i m
          obtain ⟨L, o5, n5⟩ := r5
          have hy5 := e5 _ _ DP hy4
          have ow5 := ow4.ext e5 k4.lsts BsP
          have eD : Ext [D] H5 (upd H5 D (.lst (ys ++ [v]))) := .wr (by simp)
          have DL : D ∉ L := fun z => by rw [n5 D z] at hy4; cases hy4
          have BL : ∀ a ∈ Bs, a ∉ L := fun a z w => (ownA_lsts ow4).some z (n5 a w)
          refine ⟨ys, hy5, by rw [ownA_len ow]; omega, acc ++ [m], ys ++ [v], Bs ++ L, upd_same, ownA.ext eD (one_lst hy5) (ownA_snoc o5 ow5 BL) ?_, ?_, ?_, by rw [List.length_append, List.length_singleton]; omega, p5, ?_, k5.ext eD (one_notP DP) (noX_l hy5)⟩
          · intro a z w
            rw [List.mem_singleton.mp w] at z
            exact (List.mem_append.mp z).elim nD DL
          · exact fun z => (List.mem_append.mp z).elim nD DL
          · exact fun a z => (List.mem_append.mp z).elim (fr a) fun z => pool_back k1 e1 (pool_back k4 e24 (n5 a z))
          · exact (e24.trans e5).put' hD
        · exact p5.elim
  · rintro H' ⟨acc, ys, Bs, hy, ow, nD, fr, hl, inv, e, k⟩
    exact q _ _ H' (done acc inv) (e1.trans e) k ⟨D :: Bs, ⟨D, ys, Bs, rfl, rfl, nD, hy, ow⟩, fun a z => (List.mem_cons.mp z).elim (fun z => by rw [z]; exact DH) (fr a)⟩
theorem ve_lcM {e : Expr} {T : WI} {G : WG} {C : WT} {U : WE} {vs js : List Nat} {tt : TT} (h : PE Y e (tLc (liftI X T) (liftG X G js) tt (liftE X U) vs)) (ht : ∀ σ H Q, liftT X C σ H Q → tt σ H Q) (hj : ∀ j ∈ js, j ∈ vs) : PE Y e (liftE X (eLcM T G C U vs)) := peV h (lift_lcM hj ht)
/-! ### dicts by a comprehension -/
def eDc (T : WI) (G : WG) (C : WT) (UK U : WE) (vs : List Nat) : WE := fun ρ Q Ex => T ρ (fun items => items.length < sizeLine ∧ ∃ Inv : Nat → List (Key × D) → Prop, Inv 0 [] ∧
  (∀ i it acc, items[i]? = some it → Inv i acc → G it (wipeE ρ vs) fun ρ2 => C ρ2 (fun b => if b = true then UK ρ2 (fun rk => U ρ2 (fun r => match rk.s, r.s with | .p e, .p d => ∃ k, keyD e = some k ∧ Inv (i + 1) (putD acc k d) | _, _ => False) Ex) Ex else Inv (i + 1) acc) Ex) ∧
  ∀ acc, Inv items.length acc → Q (.f (.DK acc))) Ex
theorem putD_len {α : Type} {kvs : List (Key × α)} {k : Key} {d : α} : (putD kvs k d).length ≤ kvs.length + 1 := by
  unfold putD
  split
  · rw [List.length_map]; omega
  · rw [List.length_append, List.length_singleton]; omega
theorem lift_dc {T : WI} {G : WG} {C : WT} {UK U : WE} {vs js : List Nat} {tt : TT} (hj : ∀ j ∈ js, j ∈ vs) (ht : ∀ σ H Q, liftT X C σ H Q → tt σ H Q) : ∀ σ H Q, liftE X (eDc T G C UK U vs) σ H Q → tDc (liftI X T) (liftG X G js) tt (liftE X UK) (liftE X U) vs σ H Q := by
  rintro σ H Q ⟨B, A, ρ, R, Po, Ex, h, xl, q⟩
  refine ⟨B, A, ρ, R, _, Ex, h, xl, fun items J Z H1 p1 e1 k1 g1 w1 D hD => ?_⟩
  obtain ⟨small, Inv, i0, step, done⟩ := p1
  obtain ⟨Gw, Yw, walk, gw, yw⟩ := w1
  have R1 := R.step e1 k1
  have DH : H D = none := pool_back k1 e1 hD
  have DP : D ∉ B.P := fun z => k1.lsts.some z hD
  refine dc_it walk (fun i H' => ∃ acc ks, H' D = some (.dK ks) ∧ ks.map (·.1) = acc.map (·.1) ∧ PuA H' (ks.map (·.2)) (acc.map (·.2)) ∧ acc.length ≤ i ∧ Inv i acc ∧ Ext B.P H1 H' ∧ PoolOk B.PP H') ⟨[], [], upd_same, rfl, .nil, Nat.le_refl _, i0, .new hD, k1.nw hD⟩ ?_ ?_ ?_
  · rintro i H' _ ⟨_, _, _, _, _, _, _, e, k⟩
    exact gw (A ++ B.P) H' fun z hz => z.ext (g1 z hz) e k1.lsts fun a w => List.mem_append_right _ w
  · rintro i x H' H2 hi ⟨acc, ks, hy, hk, pu, hl, inv, e, k⟩ y
    obtain ⟨e2, it, hit, ir⟩ := yw i (A ++ B.P) H' x H2 (fun z hz => z.ext (g1 z hz) e k1.lsts fun a w => List.mem_append_right _ w) hi y
    have k2 : PoolOk B.PP H2 := k.ext e2 (by simp)
    have e12 : Ext B.P H1 H2 := e.trans (e2.mono fun _ z => nomatch z)
    obtain ⟨A2, s2, R2⟩ := (R1.step e12 k2).wipe vs
    have hy2 := e2 _ _ (by simp) hy
    have pu2 := pu.ext e2 .nil
    have kl : ks.length = acc.length := by have := congrArg List.length hk; simpa using this
    refine ⟨B, A2, _, it, R2, ?_, _, step i it acc hit inv, fun ρ3 A3 σ3 h3 s3 R3 w3 => ⟨?_, ?_⟩⟩
    · cases it with
      | one r => exact IVr.off ir fun a z => .inl ((List.mem_append.mp z).elim (fun z => List.mem_append_left _ (s2 a z)) fun z => List.mem_append_right _ z)
      | two a b =>
        obtain ⟨t, va, vb, rfl, h1, h2, h3⟩ := ir
        have f : ∀ a ∈ A2 ++ B.P, a ∈ A ++ B.P ∨ H2 a = none := fun a z => .inl ((List.mem_append.mp z).elim (fun z => List.mem_append_left _ (s2 a z)) fun z => List.mem_append_right _ z)
        exact ⟨t, va, vb, rfl, h1, h2.off f, h3.off f⟩
    · exact (w3 vs hj).trans (wipe_wipe vs)
    · refine ht _ _ _ ⟨B, A3, ρ3, R3, _, Ex, h3, xl, fun b H4 p4 e4 k4 => ?_⟩
      have e24 : Ext B.P H1 H4 := e12.trans e4
      have hy4 := e4 _ _ DP hy2
      have pu4 := pu2.ext e4 k2.lsts
      cases b with
      | false =>
        rw [if_neg Bool.false_ne_true] at p4
        exact iteF ⟨acc, ks, hy4, hk, pu4, by omega, p4, e24, k4⟩
      | true =>
        rw [if_pos rfl] at p4
        refine iteT ⟨B, A3, ρ3, R3.step e4 k4, _, Ex, p4, xl, fun rk vk H5 p5 e5 k5 r5 => ?_⟩
        refine ⟨B, A3, ρ3, (R3.step e4 k4).step e5 k5, _, Ex, p5, xl, fun r v H6 p6 e6 k6 r6 => ?_⟩
        have r5 := r5.s
        have r6 := r6.s
        split at p6
        · rename_i e' d q1 q2
          rw [q1] at r5
          rw [q2] at r6
          obtain ⟨kk, hkk, p6⟩ := p6
          have ez := keyD_ok r5 hkk
          have hy6 := e6 _ _ DP (e5 _ _ DP hy4)
          have pu6 := (pu4.ext e5 k4.lsts).ext e6 k5.lsts
          have eD : Ext [D] H6 (upd H6 D (.dK (putK ks kk v))) := .wr (by simp)
          obtain ⟨z1, z2⟩ := dk_put hk pu6 r6 (k := kk)
          have pl := putD_len (kvs := acc) (k := kk) (d := d)
          refine ⟨ks, kk, ez, hy6, by omega, putD acc kk d, putK ks kk v, upd_same, z1, z2.ext eD (one_dk hy6), by omega, p6, ?_, k6.ext eD (one_notP DP) (noX_d hy6)⟩
          exact ((e24.trans e5).trans e6).put' hD
        · exact p6.elim
  · rintro H' ⟨acc, ks, hy, hk, pu, hl, inv, e, k⟩
    exact q _ _ H' (done acc inv) (e1.trans e) k ⟨[D], ⟨D, ks, rfl, rfl, hy, hk, pu⟩, fun a z => by rw [List.mem_singleton.mp z]; exact DH⟩
theorem ve_dc {e : Expr} {T : WI} {G : WG} {C : WT} {UK U : WE} {vs js : List Nat} {tt : TT} (h : PE Y e (tDc (liftI X T) (liftG X G js) tt (liftE X UK) (liftE X U) vs)) (ht : ∀ σ H Q, liftT X C σ H Q → tt σ H Q) (hj : ∀ j ∈ js, j ∈ vs) : PE Y e (liftE X (eDc T G C UK U vs)) := peV h (lift_dc hj ht)
/-! ### dict(t) -/
def prD (kv : Key × D) : D := .tuple [kD kv.1, kv.2]
def mergeD {α : Type} (kvs more : List (Key × α)) : List (Key × α) := more.foldl (fun acc kv => putD acc kv.1 kv.2) kvs
theorem mergeD_new {α : Type} : ∀ {more kvs : List (Key × α)}, (kvs.map (·.1) ++ more.map (·.1)).Nodup → mergeD kvs more = kvs ++ more
  | [], kvs, _ => by simp [mergeD]
  | kv :: more, kvs, h => by
    have hn : kv.1 ∉ kvs.map (·.1) := fun z => by
      rw [List.nodup_append] at h
      exact h.2.2 _ z _ (by simp) rfl
    have e : putD kvs kv.1 kv.2 = kvs ++ [kv] := by
      unfold putD
      rw [if_neg]
      intro z
      obtain ⟨x, hx, e⟩ := List.any_eq_true.mp z
      exact hn (List.mem_map.mpr ⟨x, hx, of_decide_eq_true e⟩)
    show mergeD (putD kvs kv.1 kv.2) more = _
    rw [e, mergeD_new (by simpa using h)]
    simp
theorem merge_ok {H : Hp} : ∀ {more : List (Key × V)} {mored : List (Key × D)} {ks : List (Key × V)} {kvs : List (Key × D)}, ks.map (·.1) = kvs.map (·.1) → PuA H (ks.map (·.2)) (kvs.map (·.2)) → more.map (·.1) = mored.map (·.1) → PuA H (more.map (·.2)) (mored.map (·.2)) →
    (mergeK ks more).map (·.1) = (mergeD kvs mored).map (·.1) ∧ PuA H ((mergeK ks more).map (·.2)) ((mergeD kvs mored).map (·.2))
  | [], [], _, _, h1, h2, _, _ => ⟨h1, h2⟩
  | [], _ :: _, _, _, _, _, h, _ => by cases h
  | _ :: _, [], _, _, _, _, h, _ => by cases h
  | (a, v) :: more, (b, d) :: mored, ks, kvs, h1, h2, h3, h4 => by
    simp only [List.map_cons, List.cons.injEq] at h3
    obtain ⟨rfl, h3⟩ := h3
    cases h4 with
    | cons p1 p2 =>
      obtain ⟨z1, z2⟩ := dk_put h1 h2 p1 (k := a)
      exact merge_ok (ks := putK ks a v) (kvs := putD kvs a d) z1 z2 h3 p2
theorem prs_of {H : Hp} : ∀ {kvs : List (Key × D)} {vs : List V}, PuA H vs (kvs.map prD) → ∃ (ps : List Addr) (ks : List (Key × V)), vs = ps.map V.ref ∧ Paired (fun p kv => SqT K H p [kV kv.1, kv.2]) ps ks ∧ ks.map (·.1) = kvs.map (·.1) ∧ PuA H (ks.map (·.2)) (kvs.map (·.2))
  | [], _, .nil => ⟨[], [], rfl, .nil, rfl, .nil⟩
  | kv :: kvs, _, .cons h t => by
    obtain ⟨ps, ks, rfl, h1, h2, h3⟩ := prs_of t
    cases h with
    | @tup a ws _ z w =>
      cases w with
      | cons w1 w =>
        cases w with
        | cons w2 w =>
          cases w
          have ek : keyD (kD kv.1) = some kv.1 := by cases kv.1 <;> rfl
          have := keyD_ok w1 ek
          subst this
          exact ⟨a :: ps, (kv.1, _) :: ks, rfl, .cons z.sq h1, by simp [h2], .cons w2 h3⟩
def fDictT : F1 := fun r Q => ∃ kvs : List (Key × D), r = .p (.tuple (kvs.map prD)) ∧ Q (.f (.DK (mergeD [] kvs)))
theorem c_dictT : CoreA K (f1 fDictT) (rDictT K) := core_1 fun B A H0 H ra va Po Q k0 k e va' h q => by
  obtain ⟨kvs, rfl, h⟩ := h
  cases va' with
  | @tup a vs _ z w =>
    obtain ⟨ps, ks, rfl, h1, h2, h3⟩ := prs_of (K := K) w
    refine ⟨a, ps, ks, rfl, z, h1, fun p hp => ?_⟩
    obtain ⟨m1, m2⟩ := merge_ok (H := H) (ks := []) (kvs := []) rfl .nil h2 h3
    exact q _ _ _ h (.new hp) (k.nw hp) ⟨[p], ⟨p, _, rfl, rfl, upd_same, m1, m2.ext (Ext.new (L := []) hp) .nil⟩, fun a z => by rw [List.mem_singleton.mp z]; exact pool_back k e hp⟩
/-! ### any, sum of numbers in a tuple -/
theorem truth_intsT {prog : Program} {w : World} {A : Around} {ns : List Int} {its : List Value} (e : IntsAre its ns) :
    TruthOf prog w A (fun i v => its.toArray[i]? = some v) (fun i => ns.getD i 0 != 0) := fun i v s Q E hv hq => by
  have hv' : its[i]? = some v := by simpa using hv
  have : ∀ {its : List Value} {ns : List Int} {i : Nat}, IntsAre its ns → its[i]? = some v → ∃ n t, v = .int n t ∧ ns.getD i 0 = n := by
    intro its ns i h
    induction h generalizing i with
    | nil => intro z; simp at z
    | cons n t _ ih =>
      intro z
      cases i with
      | zero => cases z; exact ⟨n, t, rfl, rfl⟩
      | succ i => exact ih z
  obtain ⟨n, t, rfl, hn⟩ := this e hv'
  have hq' : Q (ns.getD i 0 != 0) s := hq
  rw [hn] at hq'
  exact truthy_int hq'
theorem intsAny : ∀ ns : List Int, (List.range ns.length).any (fun i => ns.getD i 0 != 0) = ns.any fun n => n != 0
  | [] => rfl
  | n :: ns => by
    rw [List.length_cons, List.range_succ_eq_map, List.any_cons, List.any_map, List.any_cons, ← intsAny ns]
    rfl
theorem vals_ints : ∀ {ns : List Int} {us : List Value}, Vals (ns.map V.int) us → IntsAre us ns
  | [], _, .nil => .nil
  | n :: ns, _, .cons r t => by
    obtain ⟨k, rfl⟩ := r
    exact .cons n k (vals_ints t)
def rAnyTI (K : PySem.W.Frag) : List V → Hp → VK → Prop := fun vs H Q => ∃ (a : Addr) (ns : List Int), vs = [V.ref a] ∧ SqT K H a (ns.map V.int) ∧ Q (.bl (ns.any fun n => n != 0)) H
theorem cr_anyTI {X : Cx} (hc : X.calm = true) : CallR X (.builtin "any") (rAnyTI X.K) := by
  intro pins s σ H vs us Q I r h
  obtain ⟨a, ns, rfl, hs, q⟩ := h
  obtain ⟨its, rv, hl, _⟩ := I.tuple hs
  rw [Vals.ref1 r]
  have hi := vals_ints rv
  have hl' : s.heap.IsTuple a its.toArray := hl
  have hne : a ≠ s.heap.objs.size := by
    obtain ⟨o, ho, _⟩ := id hl'
    exact Nat.ne_of_lt (Heap.lt_size ho)
  refine call_any_walk (wpAny_pyIter_tuple hl' ?_)
  refine ⟨_, _, _, _, _, _, _, rfl, Walks.tuple (A := X.A.in1) (I.ok.hd hc) s.heap.objs.size a hne its.toArray, ⟨⟨_, Heap.get?_push_size _ rfl, rfl, rfl⟩, hl'.at fun o e => Heap.get?_push_of_some _ e⟩, truth_intsT hi, fun h' tk hk => ?_⟩
  refine ⟨.bl _, H, I.kept fun b o eo => hk b o (fun hmem => ?_) (Heap.get?_push_of_some _ eo), ?_, q⟩
  · rcases List.mem_cons.mp hmem with e1 | hmem
    · exact absurd (e1 ▸ Heap.lt_size eo) (Nat.lt_irrefl _)
    · cases hmem
  · show Value.bool _ = Value.bool _
    have hlen : its.length = ns.length := by have := rv.length; simp at this; exact this.symm
    rw [← intsAny, List.size_toArray, hlen]
theorem cr_anyTIK (K : PySem.W.Frag) {X : Cx} (h : X.K = K := by rfl) (hc : X.calm = true := by rfl) : CallR X (.builtin "any") (rAnyTI K) := by subst h; exact cr_anyTI hc
def fIntsT (F : List Int → (Vl → Prop) → Prop) : F1 := fun r Q => ∃ ns : List Int, (r = .p (.tuple (ns.map PyData.int)) ∨ r = .o (.tuple (ns.map PyData.int))) ∧ F ns Q
theorem daA_ints {S : List Addr} {H : Hp} : ∀ {vs : List V} {ns : List Int}, DaA K S H vs (ns.map PyData.int) → vs = ns.map V.int
  | _, [], .nil => rfl
  | _, n :: r, .cons h t => by
    cases h
    rw [daA_ints t]
    rfl
theorem ints_t {B : Bs} {A : List Addr} {H0 H : Hp} {v : V} {r : Vl} {ns : List Int} (h : VR K B A H0 H v r) (e : r = .p (.tuple (ns.map PyData.int)) ∨ r = .o (.tuple (ns.map PyData.int))) : ∃ a, v = .ref a ∧ SqT K H a (ns.map V.int) := by
  rcases e with rfl | rfl
  · cases h with
    | tup z w => rw [PuA.ints w] at z; exact ⟨_, rfl, z.sq⟩
  · cases h with
    | tup z w => rw [daA_ints w] at z; exact ⟨_, rfl, z⟩
def fAnyT : F1 := fIntsT fun ns Q => Q (.p (.bool (ns.any fun n => n != 0)))
theorem c_anyT : CoreA K (f1 fAnyT) (rAnyTI K) := core_1 fun B A H0 H ra va Po Q k0 k e va' h q => by
  obtain ⟨ns, hr, h⟩ := h
  obtain ⟨a, rfl, hs⟩ := ints_t va' hr
  exact ⟨a, ns, rfl, hs, q _ _ H h .refl k (.bl _)⟩
def rSumT (K : PySem.W.Frag) : List V → Hp → VK → Prop := fun vs H Q => ∃ (a : Addr) (ns : List Int), vs = [V.ref a] ∧ SqT K H a (ns.map V.int) ∧ Q (.int ns.sum) H
theorem cr_sumT {X : Cx} (hc : X.calm = true) : CallR X (.builtin "sum") (rSumT X.K) := by
  intro pins s σ H vs us Q I r h
  obtain ⟨a, ns, rfl, hs, q⟩ := h
  obtain ⟨its, rv, hl, _⟩ := I.tuple hs
  rw [Vals.ref1 r]
  have hi := vals_ints rv
  have hl : s.heap.IsTuple a its.toArray := hl
  obtain ⟨xs, hx⟩ := hi.allInts.items
  have hn : numsOf its.toArray.toList = ns := by rw [show its.toArray.toList = its from rfl, hi.numsOf]
  rw [hx] at hl hn
  rw [nums_intItems] at hn
  refine PySem.W.ktm_sumG (I.ok.hd hc) hl fun h' tk t' hk => ?_
  rw [preSum_eq, List.take_of_length_le (by simp), hn]
  exact ⟨.int _, H, I.kept hk, ⟨t', rfl⟩, q⟩
theorem cr_sumTK (K : PySem.W.Frag) {X : Cx} (h : X.K = K := by rfl) (hc : X.calm = true := by rfl) : CallR X (.builtin "sum") (rSumT K) := by subst h; exact cr_sumT hc
def fSumT : F1 := fIntsT fun ns Q => Q (.p (.int ns.sum))
theorem c_sumT : CoreA K (f1 fSumT) (rSumT K) := core_1 fun B A H0 H ra va Po Q k0 k e va' h q => by
  obtain ⟨ns, hr, h⟩ := h
  obtain ⟨a, rfl, hs⟩ := ints_t va' hr
  exact ⟨a, ns, rfl, hs, q _ _ H h .refl k (.int _)⟩
/-! ### powers -/
abbrev fPow : F2 := fI CPow fun i j => .int (i ^ j.toNat)
theorem c_pow : Core2 K fPow (rI CPow fun i j => .int (i ^ j.toNat)) := core_I fun _ _ _ => .int _
end
end Nv
set_option Elab.async false
set_option linter.all false
set_option maxRecDepth 100000
/-! zip of two things, each a list or a tuple -/
namespace Nv
open PySem PySem.Spec PyProof.Rows L2 RZ
/-! ### what an iterator goes along: a list (true) or a tuple -/
abbrev srcN (b : Bool) : String := bif b then "list_iterator" else "tuple_iterator"
/-- what lies at l -/
def Src (b : Bool) (h : Heap) (l : Addr) (xs : Array Value) : Prop := bif b then h.IsList l xs else h.IsTuple l xs
/-- the iterator at i, k items on -/
def SrcI (b : Bool) (h : Heap) (i l : Addr) (k : Nat) : Prop := bif b then h.IsListIter i l k else h.IsTupleIter i l k
section
variable {prog : Program} {w : World} {A : Around} {E : Value → Shared → Prop} {s : Shared} {b : Bool} {h h' : Heap} {i l c : Addr} {k : Nat} {xs : Array Value} {x : Value}
theorem Src.ext (q : Src b h l xs) (e : Heap.ExtBut c h h') (n : l ≠ c) : Src b h' l xs := by
  cases b with
  | true => exact Heap.IsList.extBut q e n
  | false => exact Heap.IsTuple.extBut q e n
theorem SrcI.at (q : SrcI b h i l k) (e : ∀ o, h.get? i = some o → h'.get? i = some o) : SrcI b h' i l k := by
  cases b with
  | true => exact Heap.IsListIter.at q e
  | false => exact Heap.IsTupleIter.at q e
theorem SrcI.ext (q : SrcI b h i l k) (e : Heap.ExtBut c h h') (n : i ≠ c) : SrcI b h' i l k := q.at fun o z => e i o n z
theorem SrcI.here (q : SrcI b h i l k) : ∃ o, h.get? i = some o ∧ o.data = .fields #[.ref l, .int k 0] := by
  cases b with
  | true => obtain ⟨o, e, _, d⟩ := q; exact ⟨o, e, d⟩
  | false => obtain ⟨o, e, _, d⟩ := q; exact ⟨o, e, d⟩
theorem SrcI.new {o : Obj} (e : h.get? i = some o) (ho : o = { cls := .type (srcN b), data := .fields #[.ref l, .int k 0] }) : SrcI b h i l k := by
  subst ho
  cases b with
  | true => exact ⟨_, e, rfl, rfl⟩
  | false => exact ⟨_, e, rfl, rfl⟩
theorem Src.lt (q : Src b h l xs) : l < h.objs.size := by
  cases b with
  | true => obtain ⟨o, e, _⟩ := q; exact Heap.lt_size e
  | false => obtain ⟨o, e, _⟩ := q; exact Heap.lt_size e
theorem Src.push (q : Src b h l xs) (o : Obj) : Src b (h.push o) l xs := by
  cases b with
  | true => exact Heap.IsList.push q o
  | false => exact Heap.IsTuple.push q o
theorem src_iter {Q : Value → Shared → Prop} (q : Src b s.heap l xs) (f : Q (.ref s.heap.objs.size) { s with heap := s.heap.push { cls := .type (srcN b), data := .fields #[.ref l, .int 0 0] } }) : wpAny (model prog w) A (pyIter (.ref l)) Q E s := by
  cases b with
  | true => exact wpAny_pyIter_list q f
  | false => exact wpAny_pyIter_tuple q f
theorem src_next {Q : Value → Shared → Prop} (q : SrcI b s.heap i l k) (p : Src b s.heap l xs) (e : xs[k]? = some x) (f : ∀ h', SrcI b h' i l (k + 1) → Heap.SameBut i s.heap h' → Q x { s with heap := h' }) : wpAny (model prog w) A (Builtin.SmallTypes.nextOf (.ref i)) Q E s := by
  cases b with
  | true => exact wpAny_nextOf_list_item q p e f
  | false => exact nextOf_tuple_item q p e f
theorem src_stop {Q : Value → Shared → Prop} (hh : A.handled = none) (q : SrcI b s.heap i l k) (p : Src b s.heap l xs) (e : xs[k]? = none) (f : ∀ h' c, Heap.ExtBut i s.heap h' → (∃ o, h'.get? c = some o ∧ o.cls = .type "StopIteration") → E (.ref c) { s with heap := h' }) : wpAny (model prog w) A (Builtin.SmallTypes.nextOf (.ref i)) Q E s := by
  cases b with
  | true => exact wpAny_nextOf_list_end hh q p e f
  | false => exact nextOf_tuple_end hh q p e f
/-! ### one turn -/
theorem zip2_next {b1 b2 : Bool} {z TI TO i1 i2 l1 l2 : Addr} {k1 k2 : Nat} {ys : Array Value} {y u v : Value} {Q : Value → Shared → Prop} (D : ZipApart z TI TO i1 i2 l1 l2) (hz : IsZip s.heap z TI TO .none) (hTI : IsPair s.heap TI (.ref i1) (.ref i2)) (hTO : IsPair s.heap TO u v)
    (q1 : SrcI b1 s.heap i1 l1 k1) (q2 : SrcI b2 s.heap i2 l2 k2) (p1 : Src b1 s.heap l1 xs) (p2 : Src b2 s.heap l2 ys) (hx : xs[k1]? = some x) (hy : ys[k2]? = some y)
    (f : ∀ h', IsZip h' z TI TO (rawInt s.heap.objs.size) → IsPair h' TO x y → SrcI b1 h' i1 l1 (k1 + 1) → SrcI b2 h' i2 l2 (k2 + 1) → IsPair h' s.heap.objs.size x y →
      (∀ c o, c ≠ z → c ≠ TO → c ≠ i1 → c ≠ i2 → s.heap.get? c = some o → h'.get? c = some o) → Q (.ref s.heap.objs.size) { s with heap := h' }) :
    wpAny (model prog w) A (Builtin.«zip.__next__» ⟨[.ref z], []⟩) (fun fin s' => ∃ v, fin = .done (.ret v) ∧ Q v s') E s := by
  show wpAny _ _ (field (.ref z) 2 >>= _) _ _ _
  refine wpAny_bind (wpAny_field hz rfl (x := .bool false) rfl ?_)
  show wpAny _ _ (field (.ref z) 3 >>= _) _ _ _
  refine wpAny_bind (wpAny_field hz rfl (x := .ref TI) rfl (wpAny_bind (wpAny_seqItems hTI rfl ?_)))
  refine wpAny_bind ?_
  unfold Builtin.SmallTypes.ownedTupleIsFree
  refine wpAny_bind (wpAny_field hz rfl (x := .none) rfl (wpAny_pure ?_))
  simp only [if_true]
  refine wpAny_bind (wpAny_rule (wpAny_bind (wpAny_field hz rfl (x := .ref TO) rfl (wpAny_bind (wpAny_setField_rec hz (by simp) fun g1 gz1 e1 => ?_)))))
  replace gz1 : IsZip g1 z TI TO .ellipsis := gz1
  have x1 := e1.extBut
  refine wpAny_bind ?_
  simp only [List.zipIdx_cons, List.zipIdx_nil, List.forIn_cons, List.forIn_nil]
  refine wpAny_bind (wpAny_bind (wpAny_onRaise (wpAny_bind (src_next (q1.ext x1 D.i1z) (p1.ext x1 D.l1z) hx fun g2 n1 e2 => wpAny_pure ?_))))
  have x2 := e2.extBut
  have t2 : IsPair g2 TO u v := x2 _ _ D.TOi1 (x1 _ _ D.TOz hTO)
  refine wpAny_bind (wpAny_seqItems t2 rfl (wpAny_bind (wpAny_updateSeq_pair t2 fun g3 t3 e3 => ?_)))
  replace t3 : IsPair g3 TO x v := t3
  have x3 := e3.extBut
  refine wpAny_bind (wpAny_letGo (wpAny_pure ?_))
  refine wpAny_bind (wpAny_bind (wpAny_onRaise (wpAny_bind (src_next (((q2.ext x1 D.i2z).ext x2 D.i12.symm).ext x3 D.TOi2.symm) (((p2.ext x1 D.l2z).ext x2 D.l2i1).ext x3 D.l2TO) hy fun g4 n2 e4 => wpAny_pure ?_))))
  have x4 := e4.extBut
  have t4 : IsPair g4 TO x v := x4 _ _ D.TOi2 t3
  refine wpAny_bind (wpAny_seqItems t4 rfl (wpAny_bind (wpAny_updateSeq_pair t4 fun g5 t5 e5 => ?_)))
  replace t5 : IsPair g5 TO x y := t5
  have x5 := e5.extBut
  refine wpAny_bind (wpAny_letGo (wpAny_pure (wpAny_pure ?_)))
  refine wpAny_bind (wpAny_seqItems t5 rfl (wpAny_bind (wpAny_newTuple ?_)))
  have sz : g5.objs.size = s.heap.objs.size := by rw [e5.1, e4.1, e3.1, e2.1, e1.1]
  have z5 : IsZip g5 z TI TO .ellipsis := x5 _ _ D.TOz.symm (x4 _ _ D.i2z.symm (x3 _ _ D.TOz.symm (x2 _ _ D.i1z.symm gz1)))
  have keep : ∀ c o, c ≠ z → c ≠ TO → c ≠ i1 → c ≠ i2 → s.heap.get? c = some o → g5.get? c = some o := fun c o c1 c2 c3 c4 e => x5 _ _ c2 (x4 _ _ c4 (x3 _ _ c2 (x2 _ _ c3 (x1 _ _ c1 e))))
  have m1 : SrcI b1 g5 i1 l1 (k1 + 1) := ((n1.ext x3 D.TOi1.symm).ext x4 D.i12).ext x5 D.TOi1.symm
  have m2 : SrcI b2 g5 i2 l2 (k2 + 1) := n2.ext x5 D.TOi2.symm
  refine wpAny_bind ?_
  unfold Builtin.SmallTypes.ownedTupleHandOut
  have z6 : IsZip (g5.push { cls := .type "tuple", data := .seq #[x, y] }) z TI TO .ellipsis := Heap.get?_push_of_some _ z5
  refine wpAny_bind (wpAny_setField_rec z6 (by simp) fun g7 z7 e7 => ?_)
  replace z7 : IsZip g7 z TI TO (rawInt g5.objs.size) := z7
  refine wpAny_setField_rec z7 (by simp) fun g8 z8 e8 => ?_
  replace z8 : IsZip g8 z TI TO (rawInt g5.objs.size) := z8
  have up : ∀ c o, c ≠ z → g5.get? c = some o → g8.get? c = some o := fun c o c1 e => e8.extBut _ _ c1 (e7.extBut _ _ c1 (Heap.get?_push_of_some _ e))
  have new8 : IsPair g8 g5.objs.size x y := e8.extBut _ _ (Nat.ne_of_gt (Heap.lt_size z5)) (e7.extBut _ _ (Nat.ne_of_gt (Heap.lt_size z5)) (Heap.get?_push_size _ rfl))
  rw [sz] at z8 new8
  refine wpAny_pure ⟨_, rfl, ?_⟩
  show Q (.ref g5.objs.size) _
  rw [sz]
  exact f g8 z8 (up _ _ D.TOz t5) (m1.at fun o e => up _ o D.i1z e) (m2.at fun o e => up _ o D.i2z e) new8 fun c o c1 c2 c3 c4 e => up c o c1 (keep c o c1 c2 c3 c4 e)
theorem zip2_stop {b1 b2 : Bool} {z TI TO i1 i2 l1 l2 : Addr} {k1 k2 : Nat} {ys : Array Value} {u v : Value} {Q : Fin → Shared → Prop} (hh : A.handled = none) (D : ZipApart z TI TO i1 i2 l1 l2) (hz : IsZip s.heap z TI TO .none) (hTI : IsPair s.heap TI (.ref i1) (.ref i2)) (hTO : IsPair s.heap TO u v)
    (q1 : SrcI b1 s.heap i1 l1 k1) (q2 : SrcI b2 s.heap i2 l2 k2) (p1 : Src b1 s.heap l1 xs) (p2 : Src b2 s.heap l2 ys) (over : xs[k1]? = none ∨ ys[k2]? = none)
    (f : ∀ h' e, (∀ c o, c ≠ z → c ≠ TO → c ≠ i1 → c ≠ i2 → s.heap.get? c = some o → h'.get? c = some o) → (∃ o, h'.get? e = some o ∧ o.cls = .type "StopIteration") → E (.ref e) { s with heap := h' }) :
    wpAny (model prog w) A (Builtin.«zip.__next__» ⟨[.ref z], []⟩) Q E s := by
  show wpAny _ _ (field (.ref z) 2 >>= _) _ _ _
  refine wpAny_bind (wpAny_field hz rfl (x := .bool false) rfl ?_)
  show wpAny _ _ (field (.ref z) 3 >>= _) _ _ _
  refine wpAny_bind (wpAny_field hz rfl (x := .ref TI) rfl (wpAny_bind (wpAny_seqItems hTI rfl ?_)))
  refine wpAny_bind ?_
  unfold Builtin.SmallTypes.ownedTupleIsFree
  refine wpAny_bind (wpAny_field hz rfl (x := .none) rfl (wpAny_pure ?_))
  simp only [if_true]
  refine wpAny_bind (wpAny_rule (wpAny_bind (wpAny_field hz rfl (x := .ref TO) rfl (wpAny_bind (wpAny_setField_rec hz (by simp) fun g1 gz1 e1 => ?_)))))
  replace gz1 : IsZip g1 z TI TO .ellipsis := gz1
  have x1 := e1.extBut
  -- what leaves: the field is set back
  have leave : ∀ {g : Heap} {e : Addr} {T : Value → Shared → Prop}, IsZip g z TI TO .ellipsis → (∃ o, g.get? e = some o ∧ o.cls = .type "StopIteration") → (∀ h', IsZip h' z TI TO .none → Heap.SameBut z g h' → (∃ o, h'.get? e = some o ∧ o.cls = .type "StopIteration") → T (.ref e) { s with heap := h' }) →
      ∀ h', IsZip h' z TI TO .none → Heap.SameBut z g h' → T (.ref e) { s with heap := h' } := fun {g e T} hg he k h' z' e' => by
    obtain ⟨o, ho, hc⟩ := he
    have : e ≠ z := fun w => by subst w; rw [hg] at ho; cases ho; simp at hc
    exact k h' z' e' ⟨o, e'.extBut _ _ this ho, hc⟩
  refine wpAny_bind ?_
  simp only [List.zipIdx_cons, List.zipIdx_nil, List.forIn_cons, List.forIn_nil]
  refine wpAny_bind (wpAny_bind (wpAny_onRaise ?_))
  cases hx : xs[k1]? with
  | none =>
    refine wpAny_bind (src_stop hh (q1.ext x1 D.i1z) (p1.ext x1 D.l1z) hx fun g2 e e2 he => ?_)
    have z2 : IsZip g2 z TI TO .ellipsis := e2 _ _ D.i1z.symm gz1
    exact wpAny_setField_rec z2 (by simp) fun g3 z3 e3 => leave z2 he (fun h' _ e' he' => f h' e (fun c o c1 _ c3 _ w => e'.extBut _ _ c1 (e2 _ _ c3 (x1 _ _ c1 w))) he') g3 z3 e3
  | some x =>
    have hy : ys[k2]? = none := over.resolve_left fun w => by rw [hx] at w; cases w
    refine wpAny_bind (src_next (q1.ext x1 D.i1z) (p1.ext x1 D.l1z) hx fun g2 n1 e2 => wpAny_pure ?_)
    have x2 := e2.extBut
    have t2 : IsPair g2 TO u v := x2 _ _ D.TOi1 (x1 _ _ D.TOz hTO)
    refine wpAny_bind (wpAny_seqItems t2 rfl (wpAny_bind (wpAny_updateSeq_pair t2 fun g3 t3 e3 => ?_)))
    have x3 := e3.extBut
    refine wpAny_bind (wpAny_letGo (wpAny_pure ?_))
    refine wpAny_bind (wpAny_bind (wpAny_onRaise ?_))
    refine wpAny_bind (src_stop hh (((q2.ext x1 D.i2z).ext x2 D.i12.symm).ext x3 D.TOi2.symm) (((p2.ext x1 D.l2z).ext x2 D.l2i1).ext x3 D.l2TO) hy fun g4 e e4 he => ?_)
    have z4 : IsZip g4 z TI TO .ellipsis := e4 _ _ D.i2z.symm (x3 _ _ D.TOz.symm (x2 _ _ D.i1z.symm gz1))
    exact wpAny_setField_rec z4 (by simp) fun g5 z5 e5 => leave z4 he (fun h' _ e' he' => f h' e (fun c o c1 c2 c3 c4 w => e'.extBut _ _ c1 (e4 _ _ c4 (x3 _ _ c2 (x2 _ _ c3 (x1 _ _ c1 w))))) he') g5 z5 e5
theorem zip2_item {b1 b2 : Bool} {z TI TO i1 i2 l1 l2 : Addr} {k1 k2 : Nat} {ys : Array Value} {y u v : Value} {Q : Option Value → Shared → Prop} (D : ZipApart z TI TO i1 i2 l1 l2) (hz : IsZip s.heap z TI TO .none) (hTI : IsPair s.heap TI (.ref i1) (.ref i2)) (hTO : IsPair s.heap TO u v)
    (q1 : SrcI b1 s.heap i1 l1 k1) (q2 : SrcI b2 s.heap i2 l2 k2) (p1 : Src b1 s.heap l1 xs) (p2 : Src b2 s.heap l2 ys) (hx : xs[k1]? = some x) (hy : ys[k2]? = some y)
    (f : ∀ h', IsZip h' z TI TO (rawInt s.heap.objs.size) → IsPair h' TO x y → SrcI b1 h' i1 l1 (k1 + 1) → SrcI b2 h' i2 l2 (k2 + 1) → IsPair h' s.heap.objs.size x y →
      (∀ c o, c ≠ z → c ≠ TO → c ≠ i1 → c ≠ i2 → s.heap.get? c = some o → h'.get? c = some o) → Q (some (.ref s.heap.objs.size)) { s with heap := h' }) :
    wpAny (model prog w) A (pyNext (.ref z)) Q E s := by
  have ty : s.TypeIs (.ref z) "zip" := ⟨_, hz, rfl⟩
  unfold pyNext
  exact wpAny_bind (wpAny_attempt (wpAny_callSpecial?_slot (name := Str.ofString "__next__") ty F.slot_zip_next (wpAny_call_entry F.slot_zip_next ty F.entry_zip_next
    (zip2_next D hz hTI hTO q1 q2 p1 p2 hx hy fun h' a1 a2 a3 a4 a5 a6 => wpAny_pure (f h' a1 a2 a3 a4 a5 a6)) (F.args_zip_next_1 _))))
theorem zip2_end {b1 b2 : Bool} {z TI TO i1 i2 l1 l2 : Addr} {k1 k2 : Nat} {ys : Array Value} {u v : Value} {Q : Option Value → Shared → Prop} (hh : A.handled = none) (D : ZipApart z TI TO i1 i2 l1 l2) (hz : IsZip s.heap z TI TO .none) (hTI : IsPair s.heap TI (.ref i1) (.ref i2)) (hTO : IsPair s.heap TO u v)
    (q1 : SrcI b1 s.heap i1 l1 k1) (q2 : SrcI b2 s.heap i2 l2 k2) (p1 : Src b1 s.heap l1 xs) (p2 : Src b2 s.heap l2 ys) (over : xs[k1]? = none ∨ ys[k2]? = none)
    (f : ∀ h', (∀ c o, c ≠ z → c ≠ TO → c ≠ i1 → c ≠ i2 → s.heap.get? c = some o → h'.get? c = some o) → Q none { s with heap := h' }) : wpAny (model prog w) A (pyNext (.ref z)) Q E s := by
  have ty : s.TypeIs (.ref z) "zip" := ⟨_, hz, rfl⟩
  unfold pyNext
  refine wpAny_bind (wpAny_attempt (wpAny_callSpecial?_slot (name := Str.ofString "__next__") ty F.slot_zip_next (wpAny_call_entry F.slot_zip_next ty F.entry_zip_next
    (zip2_stop hh D hz hTI hTO q1 q2 p1 p2 over fun h' e hk ⟨o, ho, hc⟩ => wpAny_bind (wpAny_isInstance (T := "StopIteration") (b := true) ⟨o, ho, hc⟩ isSubtype_stop (wpAny_pure (f _ hk)))) (F.args_zip_next_1 _))))
/-! ### zip is called -/
abbrev zipG1 (b1 : Bool) (h : Heap) (l1 : Addr) : Heap := h.push { cls := .type (srcN b1), data := .fields #[.ref l1, .int 0 0] }
abbrev zipG2 (b1 b2 : Bool) (h : Heap) (l1 l2 : Addr) : Heap := (zipG1 b1 h l1).push { cls := .type (srcN b2), data := .fields #[.ref l2, .int 0 0] }
abbrev zipG3 (b1 b2 : Bool) (h : Heap) (l1 l2 : Addr) : Heap := (zipG2 b1 b2 h l1 l2).push { cls := .type "tuple", data := .seq #[.ref h.objs.size, .ref (zipG1 b1 h l1).objs.size] }
abbrev zipG4 (b1 b2 : Bool) (h : Heap) (l1 l2 : Addr) : Heap := (zipG3 b1 b2 h l1 l2).push { cls := .type "tuple", data := .seq #[.none, .none] }
abbrev zipG5 (b1 b2 : Bool) (h : Heap) (l1 l2 : Addr) : Heap := (zipG4 b1 b2 h l1 l2).push { cls := .type "zip", data := .fields #[.none, .bool false, .bool false, .ref (zipG2 b1 b2 h l1 l2).objs.size, .ref (zipG3 b1 b2 h l1 l2).objs.size] }
theorem zip2_new (b1 b2 : Bool) (l1 l2 : Addr) (xs ys : Array Value) :
    Meets (Builtin.«zip.__new__» ⟨[.type "zip", .ref l1, .ref l2], []⟩) (fun _ R s => Src b1 s.heap l1 xs ∧ Src b2 s.heap l2 ys ∧ R (.ok (.ret (.ref (zipG4 b1 b2 s.heap l1 l2).objs.size))) { s with heap := zipG5 b1 b2 s.heap l1 l2 }) :=
  .of_wp fun prog w A R s h => by
    obtain ⟨hp, g, d, tk, os⟩ := s
    obtain ⟨p1, p2, h⟩ := h
    have hsub := sub_zip
    have m1 : Src b1 (Shared.heap ⟨hp, g, d, tk, os⟩) l1 xs := p1
    have m2 : Src b2 (Shared.heap ⟨hp.push { cls := .type (srcN b1), data := .fields #[.ref l1, .int 0 0] }, g, d, tk, os⟩) l2 ys := Src.push p2 _
    wp_walk using src_iter m1, src_iter m2
    exact ⟨_, rfl, h⟩
theorem zip2_call {b1 b2 : Bool} {l1 l2 : Addr} {ys : Array Value} {Q : Value → Shared → Prop} (p1 : Src b1 s.heap l1 xs) (p2 : Src b2 s.heap l2 ys)
    (f : ∀ h', IsZip h' (s.heap.objs.size + 4) (s.heap.objs.size + 2) (s.heap.objs.size + 3) .none → IsPair h' (s.heap.objs.size + 2) (.ref s.heap.objs.size) (.ref (s.heap.objs.size + 1)) → IsPair h' (s.heap.objs.size + 3) .none .none →
      SrcI b1 h' s.heap.objs.size l1 0 → SrcI b2 h' (s.heap.objs.size + 1) l2 0 → (∀ c o, s.heap.get? c = some o → h'.get? c = some o) → Q (.ref (s.heap.objs.size + 4)) { s with heap := h' }) : wpAny (model prog w) A (call (.type "zip") [.ref l1, .ref l2]) Q E s := by
  refine callType_new F.called_zip (by decide) (F.typeCall_zip_2 _ _) (F.newCall_zip_2 _ _) (fun obj => F.args_object_init_3 obj _ _) F.entry_zip_new (zip2_new b1 b2 l1 l2 xs ys) ⟨p1, p2, ?_⟩
  have z1 : (zipG1 b1 s.heap l1).objs.size = s.heap.objs.size + 1 := Heap.size_push ..
  have z2 : (zipG2 b1 b2 s.heap l1 l2).objs.size = s.heap.objs.size + 2 := by rw [Heap.size_push, z1]
  have z3 : (zipG3 b1 b2 s.heap l1 l2).objs.size = s.heap.objs.size + 3 := by rw [Heap.size_push, z2]
  have z4 : (zipG4 b1 b2 s.heap l1 l2).objs.size = s.heap.objs.size + 4 := by rw [Heap.size_push, z3]
  have up : ∀ {h : Heap} (o : Obj) {c : Addr} {u : Obj}, h.get? c = some u → (h.push o).get? c = some u := fun o _ _ e => Heap.get?_push_of_some o e
  have g5 : (zipG5 b1 b2 s.heap l1 l2).get? (zipG4 b1 b2 s.heap l1 l2).objs.size = some _ := Heap.get?_push_size _ rfl
  have g4 : (zipG5 b1 b2 s.heap l1 l2).get? (zipG3 b1 b2 s.heap l1 l2).objs.size = some _ := up _ (Heap.get?_push_size _ rfl)
  have g3 : (zipG5 b1 b2 s.heap l1 l2).get? (zipG2 b1 b2 s.heap l1 l2).objs.size = some _ := up _ (up _ (Heap.get?_push_size _ rfl))
  have g2 : (zipG5 b1 b2 s.heap l1 l2).get? (zipG1 b1 s.heap l1).objs.size = some _ := up _ (up _ (up _ (Heap.get?_push_size _ rfl)))
  have g1 : (zipG5 b1 b2 s.heap l1 l2).get? s.heap.objs.size = some _ := up _ (up _ (up _ (up _ (Heap.get?_push_size _ rfl))))
  show _ ∧ _
  rw [z2, z3, z4] at g5
  rw [z1, z2] at g3
  rw [z3] at g4
  rw [z1] at g2
  rw [z4]
  exact ⟨⟨_, g5, rfl⟩, f _ g5 g3 g4 (.new g1 rfl) (.new g2 rfl) fun c o w => up _ (up _ (up _ (up _ (up _ w))))⟩
end
/-! ### as an iterator of the frames -/
def SqB (b : Bool) (K : PySem.W.Frag) (H : Hp) (a : Addr) (xs : List V) : Prop := bif b then SqL K H a xs else SqT K H a xs
def ItzB (b1 b2 : Bool) (K : PySem.W.Frag) (a c : Addr) : It :=
  ⟨fun i H => ∃ (xs ys : List V) (x y : V), SqB b1 K H a xs ∧ SqB b2 K H c ys ∧ xs[i]? = some x ∧ ys[i]? = some y,
    fun i H v H' => ∃ T x y, v = .ref T ∧ H T = none ∧ H' = upd H T (.tup [x, y]) ∧ (∀ xs, SqB b1 K H a xs → xs[i]? = some x) ∧ ∀ ys, SqB b2 K H c ys → ys[i]? = some y,
    fun i H => ∃ xs ys : List V, SqB b1 K H a xs ∧ SqB b2 K H c ys ∧ (xs.length ≤ i ∨ ys.length ≤ i)⟩
section
variable {X : Cx} {pins : List (Addr × Obj)} {σ : L2.St} {H : Hp} {s : Shared}
theorem sqB_src {b : Bool} {a : Addr} {xs : List V} (I : L2.Inv X pins σ H s) (q : SqB b X.K H a xs) : ∃ its, Vals xs its ∧ Src b s.heap a its.toArray := by
  cases b with
  | true => obtain ⟨its, r, p, _⟩ := I.list q; exact ⟨its, r, p.isList⟩
  | false => obtain ⟨its, r, p, _⟩ := I.tuple q; exact ⟨its, r, p⟩
theorem sqB_inj {b : Bool} {a : Addr} {xs ys : List V} (I : L2.Inv X pins σ H s) (q : SqB b X.K H a xs) (q' : SqB b X.K H a ys) : xs = ys := by
  cases b with
  | true => exact I.list_inj q q'
  | false => exact I.tuple_inj q q'
end
theorem turn_zip2 {b1 b2 : Bool} {P : Program} {w : World} {K : PySem.W.Frag} {elts : List Expr} {kk : Nat} {tpos : Pos} {a b z TI TO i1 i2 : Addr} (D : ZipApart z TI TO i1 i2 a b) :
    Turn P w K (.Tuple elts kk tpos) (ItzB b1 b2 K a b) [z, TI, TO, i1, i2] z (fun i h => IsZip h z TI TO .none ∧ IsPair h TI (.ref i1) (.ref i2) ∧ (∃ x y, IsPair h TO x y) ∧ SrcI b1 h i1 a i ∧ SrcI b2 h i2 b i) where
  mem := by simp
  obj := fun i h st c hc => by
    obtain ⟨hz, hTI, ⟨x, y, hTO⟩, q1, q2⟩ := st
    obtain ⟨o1, e1, d1⟩ := q1.here
    obtain ⟨o2, e2, d2⟩ := q2.here
    simp only [List.mem_cons, List.not_mem_nil, or_false] at hc
    rcases hc with rfl | rfl | rfl | rfl | rfl
    · exact ⟨_, hz, fun v q => nomatch q⟩
    · exact ⟨_, hTI, fun v q => nomatch q⟩
    · exact ⟨_, hTO, fun v q => nomatch q⟩
    · exact ⟨o1, e1, fun v q => by rw [d1] at q; cases q⟩
    · exact ⟨o2, e2, fun v q => by rw [d2] at q; cases q⟩
  keep := fun i h h' ⟨hz, hTI, ⟨x, y, hTO⟩, q1, q2⟩ k => ⟨k z (by simp) _ hz, k TI (by simp) _ hTI, ⟨x, y, k TO (by simp) _ hTO⟩, q1.at fun o q => k i1 (by simp) o q, q2.at fun o q => k i2 (by simp) o q⟩
  item := by
    intro X hP hw hK hc i pins s σ H E I hf ⟨hz, hTI, ⟨x0, y0, hTO⟩, q1, q2⟩ ⟨xs, ys, x, y, sx, sy, hx, hy⟩
    subst hP hw hK
    obtain ⟨its, r1, p1⟩ := sqB_src I sx
    obtain ⟨its2, r2, p2⟩ := sqB_src I sy
    obtain ⟨u, hu, ru⟩ := r1.get hx
    obtain ⟨u2, hu2, ru2⟩ := r2.get hy
    refine zip2_item D hz hTI hTO q1 q2 p1 p2 (x := u) (y := u2) (by simpa using hu) (by simpa using hu2) fun h' z' t' m1 m2 new hk => ?_
    refine ⟨_, rfl, wpAny_letOwnedTupleGo_zip (s := { s with heap := h' }) z' fun h'' z'' sb => ?_⟩
    have new2 : h''.get? s.heap.objs.size = some { cls := .type "tuple", data := .seq #[u, u2] } := (sb.2 _ (Nat.ne_of_gt (Heap.lt_size hz))).trans new
    have ok : ObjOk X.prog X.w (upd H s.heap.objs.size (.tup [x, y])) h'' s.heap.objs.size (.tup [x, y]) := ⟨by show 2 ≤ sizeLine; decide, [u, u2], .cons ru (.cons ru2 .nil), ⟨_, new2, rfl, _, rfl⟩⟩
    have I1 : L2.Inv X pins σ (upd H s.heap.objs.size (.tup [x, y])) { s with heap := h'' } := I.turnedNew (t' := s.toks) (ch := [z, TI, TO, i1, i2]) (fun c o hb q => by
      simp only [List.mem_cons, List.not_mem_nil, or_false, not_or] at hb
      exact (sb.2 c hb.1).trans (hk c o hb.1 hb.2.2.1 hb.2.2.2.1 hb.2.2.2.2 q)) hf (Nat.le_refl _) ok
    refine ⟨.ref s.heap.objs.size, _, I1, rfl, ⟨_, x, y, rfl, I.hok.fresh (Nat.le_refl _), rfl, fun l hl => by rw [sqB_inj I hl sx]; exact hx, fun l hl => by rw [sqB_inj I hl sy]; exact hy⟩, ⟨z'', ?_, ⟨u, u2, (sb.2 _ D.TOz).trans t'⟩, m1.at fun o q => (sb.2 _ D.i1z).trans q, m2.at fun o q => (sb.2 _ D.i2z).trans q⟩, fun c hcm => ?_⟩
    · exact (sb.2 _ D.TIz).trans (hk _ _ D.TIz D.TITO D.TIi1 D.TIi2 hTI)
    · have hlt : c < s.heap.objs.size := by
        obtain ⟨o1, e1, _⟩ := q1.here
        obtain ⟨o2, e2, _⟩ := q2.here
        simp only [List.mem_cons, List.not_mem_nil, or_false] at hcm
        rcases hcm with rfl | rfl | rfl | rfl | rfl <;> first | exact Heap.lt_size hz | exact Heap.lt_size hTI | exact Heap.lt_size hTO | exact Heap.lt_size e1 | exact Heap.lt_size e2
      rw [upd_ne (Nat.ne_of_lt hlt)]
      exact (hf c hcm).1
  done := by
    intro X hP hw hK hc i pins s σ H E I hf ⟨hz, hTI, ⟨x0, y0, hTO⟩, q1, q2⟩ ⟨xs, ys, sx, sy, over⟩
    subst hP hw hK
    obtain ⟨its, r1, p1⟩ := sqB_src I sx
    obtain ⟨its2, r2, p2⟩ := sqB_src I sy
    have l1 := r1.length
    have l2 := r2.length
    refine zip2_end (I.ok.hd hc) D hz hTI hTO q1 q2 p1 p2 (over.imp (fun q => by simp; omega) fun q => by simp; omega) fun h' hk => ⟨rfl, I.turnedL (t' := s.toks) (ch := [z, TI, TO, i1, i2]) (fun c o hb q => ?_) hf⟩
    simp only [List.mem_cons, List.not_mem_nil, or_false, not_or] at hb
    exact hk c o hb.1 hb.2.2.1 hb.2.2.2.1 hb.2.2.2.2 q
  self := fun A i s Q E st h => wpAny_pyIter_zip st.1 h
def iZipB (K : PySem.W.Frag) (ta : TA) : TI := fun σ H R => ta σ H fun vs H1 => ∃ b1 b2 a b xs ys, vs = [.ref a, .ref b] ∧ SqB b1 K H1 a xs ∧ SqB b2 K H1 b ys ∧ R (ItzB b1 b2 K a b) H1
theorem pi_zipB {X : Cx} {e e2 : Expr} {ta : TA} {p pos tpos : Pos} {elts : List Expr} {kk : Nat} (hg : Gl X "zip") (hm : X.mg "zip" = none) (ha : PA X [e, e2] ta)
    (hs : starEach [e, e2] X.env = (false, eval e X.env) :: starEach [e2] X.env := by rfl) (hpl : (backTo pos (starEach [e2] X.env)).any (·.1) = false := by rfl) : PI X (.Tuple elts kk tpos) (.Call (.Name "zip" p) [e, e2] [] pos) (iZipB X.K ta) := by
  refine ⟨fun pins s σ H R I h => ?_⟩
  refine Call_ (ld_blt I hg hm PyProof.Rows.boot_zip (PyProof.Rows.callWith_type1 (thn (ha.run pos pins s σ H _ I h) fun us s1 ⟨vs, H1, I1, r1, q1⟩ => ?_) hs hpl))
  obtain ⟨b1, b2, a, b, xs, ys, rfl, sx, sy, q⟩ := q1
  cases r1 with
  | cons r rr =>
    cases rr with
    | cons r' rr =>
      cases rr
      cases r
      cases r'
      obtain ⟨its, _, p1⟩ := sqB_src I1 sx
      obtain ⟨its2, _, p2⟩ := sqB_src I1 sy
      refine zip2_call p1 p2 fun h' hz hTI hTO m1 m2 hk => wpAny_pyIter_zip hz ?_
      have I2 : L2.Inv X pins σ H1 { s1 with heap := h' } := I1.kept (t' := s1.toks) hk
      refine ⟨s1.heap.objs.size + 4, [s1.heap.objs.size + 4, s1.heap.objs.size + 2, s1.heap.objs.size + 3, s1.heap.objs.size, s1.heap.objs.size + 1], _, _, H1, rfl, I2, turn_zip2 (PySem.W.ktu_apart s1.heap.objs.size a b p1.lt p2.lt), ⟨hz, hTI, ⟨_, _, hTO⟩, m1, m2⟩, fun c hcm => ?_, q⟩
      have hle : s1.heap.objs.size ≤ c := by
        simp only [List.mem_cons, List.not_mem_nil, or_false] at hcm
        rcases hcm with rfl | rfl | rfl | rfl | rfl <;> first | exact Nat.le_refl _ | exact Nat.le_add_right _ _
      exact I1.fpOk hle (I1.hok.fresh hle)
theorem pi_zipBK (K : PySem.W.Frag) {X : Cx} {e e2 : Expr} {ta : TA} {p pos tpos : Pos} {elts : List Expr} {kk : Nat} (hg : Gl X "zip") (hm : X.mg "zip" = none) (ha : PA X [e, e2] ta)
    (hs : starEach [e, e2] X.env = (false, eval e X.env) :: starEach [e2] X.env := by rfl) (hpl : (backTo pos (starEach [e2] X.env)).any (·.1) = false := by rfl) (h : X.K = K := by rfl) : PI X (.Tuple elts kk tpos) (.Call (.Name "zip" p) [e, e2] [] pos) (iZipB K ta) := by subst h; exact pi_zipB hg hm ha hs hpl
theorem walk_zip2 {b1 b2 : Bool} {K : PySem.W.Frag} {a b : Addr} {xs ys : List V} : Walk (ItzB b1 b2 K a b) (min xs.length ys.length) (fun H => SqB b1 K H a xs ∧ SqB b2 K H b ys) (YPair (fun i => xs[i]?) (fun i => ys[i]?)) := by
  refine ⟨fun i _ hi q => ?_, fun _ q => ⟨xs, ys, q.1, q.2, by omega⟩, fun i H v H' _ q y => ?_⟩
  · have h1 : i < xs.length := by omega
    have h2 : i < ys.length := by omega
    exact ⟨xs, ys, xs[i], ys[i], q.1, q.2, by simp [h1], by simp [h2]⟩
  · obtain ⟨T, x, z, h1, h2, h3, h4, h5⟩ := y
    exact ⟨T, x, z, h1, h2, h3, h4 xs q.1, h5 ys q.2⟩
/-! ### in the value layer -/
section
variable {Y : Cx} {X : Vx} {K : PySem.W.Frag} {B : Bs} {A : List Addr} {H0 H : Hp} {σ : L2.St} {ρ : Env'}
theorem VR.seqB {v : V} {r : Vl} {rs : List Vl} (R : Rep K B A H0 σ ρ) (h : VR K B A H0 H v r) (e : r.seq = some rs) : ∃ b a vs z, v = .ref a ∧ GR B A H z ∧ (∀ T H', z.pr T H' → SqB b K H' a vs) ∧ Seqs K B.S0 rs vs z := by
  rcases seq_or e with e | e
  · obtain ⟨a, vs, z, h1, h2, h3, h4⟩ := h.lst R e
    exact ⟨true, a, vs, z, h1, h2, h3, h4⟩
  · obtain ⟨a, vs, z, h1, h2, h3, h4⟩ := h.tpl e
    exact ⟨false, a, vs, z, h1, h2, h3, h4⟩
def iZp (T : WA) : WI := fun ρ Q Ex => T ρ (fun rs => match rs with
  | [a, b] => (match a.seq, b.seq with | some as, some bs => Q (pairs as bs) | _, _ => False)
  | _ => False) Ex
theorem vi_zp {tg e : Expr} {T : WA} (h : PI Y tg e (iZipB X.K (liftA X T))) : PI Y tg e (liftI X (iZp T)) := piV h fun σ H Q ⟨B, A, ρ, R, Po, Ex, h, xl, q⟩ => by
  refine ⟨B, A, ρ, R, _, Ex, h, xl, fun rs vs H1 p1 e1 k1 r1 => ?_⟩
  split at p1
  · rename_i ra rb
    cases r1 with
    | cons a b1 t =>
      cases t with
      | cons b b2 t =>
        cases t
        split at p1
        · rename_i as bs ea eb
          obtain ⟨c1, a1, vs1, z1, rfl, g1, hs1, sq1⟩ := a.vr.seqB R ea
          obtain ⟨c2, a2, vs2, z2, rfl, g2, hs2, sq2⟩ := (b.vr.back2 b1).seqB R eb
          exact ⟨c1, c2, a1, a2, vs1, vs2, rfl, hs1 _ _ g1, hs2 _ _ g2, q _ _ [z1, z2] H1 p1 e1 k1 (fun z hz => by simp at hz; rcases hz with rfl | rfl <;> assumption) (iw_pairs (B := B) walk_zip2 (fun T H' q1 q2 => ⟨hs1 T H' q1, hs2 T H' q2⟩) sq1 sq2)⟩
        · exact p1.elim
  · exact p1.elim
end
end Nv
set_option Elab.async false
set_option linter.all false
set_option maxRecDepth 100000
set_option maxHeartbeats 1000000
/-! the value layer: lambdas that are handed to a def, and what is heard of them -/
namespace Nv
open PySem PySem.Spec PyProof.Rows L2 LamX
section
variable {X : Cx} {pins : List (Addr × Obj)} {σ : L2.St} {H : Hp} {s : Shared}
/-- tables stay where one of them grows by a code object of its own name -/
theorem tabs_grow {T : List (Addr × Str)} {P c : Addr} {q : Str} {ps : Array Value} {pos : Pos} (hT : Tabs T H) (hP : H P = some (.tbl ps)) (hu : ∀ p ∈ T, p.1 = P → p.2 = q) (hm : (P, q) ∈ T) (nC : H c = none) :
    Tabs T (upd (upd H P (.tbl (ps ++ #[rawInt pos.line, rawInt pos.col, .ref c]))) c (CodeO c q)) := by
  have Pc : P ≠ c := fun z => by rw [z, nC] at hP; cases hP
  have stay : ∀ (d : Addr) (r : Str), H d = some (CodeO d r) → upd (upd H P (.tbl (ps ++ #[rawInt pos.line, rawInt pos.col, .ref c]))) c (CodeO c q) d = some (CodeO d r) := fun d r h => by
    have dc : d ≠ c := fun z => by rw [z, nC] at h; cases h
    have dP : d ≠ P := fun z => by
      rw [z, hP] at h
      exact codeO_ne ps (Option.some.inj h).symm
    rw [upd_ne dc, upd_ne dP]
    exact h
  intro p hp
  obtain ⟨qs, h1, h2, h3⟩ := hT p hp
  have p1c : p.1 ≠ c := fun z => by rw [z, nC] at h1; cases h1
  by_cases e : p.1 = P
  · have e2 := hu p hp e
    obtain ⟨p1, p2⟩ := p
    cases e
    cases e2
    rw [hP] at h1
    cases h1
    have tl : (ps ++ #[rawInt pos.line, rawInt pos.col, .ref c]).toList = ps.toList ++ [rawInt pos.line, rawInt pos.col, .ref c] := by simp
    refine ⟨_, by rw [upd_ne Pc, upd_same], by rw [tl]; exact PySem.TriplesOk_snoc _ _ _ _ h2, fun pos' cv hcv => ?_⟩
    rw [tl] at hcv
    rcases among_app _ h2 hcv with z | z
    · obtain ⟨d, e1, e2⟩ := h3 pos' cv z
      exact ⟨d, e1, stay d _ e2⟩
    · exact ⟨c, z, upd_same⟩
  · refine ⟨qs, by rw [upd_ne p1c, upd_ne e]; exact h1, h2, fun pos' cv hcv => ?_⟩
    obtain ⟨d, e1, e2⟩ := h3 pos' cv hcv
    exact ⟨d, e1, stay d _ e2⟩
/-- a lambda is made: of what was known, its table alone is written -/
theorem lam_madeP {T : List (Addr × Str)} {c P : Addr} {params : Arguments} {body : Expr} {scope : Scope} {pos : Pos} {E Q : Value → Shared → Prop} (I : L2.Inv X pins σ H s) (TB : TabB X.base X.mg c P) (hcode : X.env.code = .ref c)
    (hm : (P, X.env.qual ++ "<lambda>") ∈ T) (hu : ∀ p ∈ T, p.1 = P → p.2 = X.env.qual ++ "<lambda>") (hT : Tabs T H) (hdef : defaultsOf params X.env = ([], [])) (L : LamS X.env.scope scope)
    (go : ∀ (f c' : Addr) (pm ctv : Value) (H1 : Hp) (s' : Shared), L2.Inv X pins σ H1 s' → Ext [P] H H1 → Tabs T H1 → s'.heap.get? f = some (PySem.W.kla_obj "<lambda>" (X.env.qual ++ "<lambda>") params body scope (cloFrom X.env.cells scope.names []) pm c' ctv) →
      H1 f = none → f ∉ frs X.stack → H1 c' = some (CodeO c' (X.env.qual ++ "<lambda>")) → Q (.ref f) s') : wpAny (model X.prog X.w) X.A (eval (.Lambda params body scope pos) X.env) Q E s := by
  obtain ⟨ps, hP, ht, ha⟩ := hT _ hm
  have hfree := L.has I.ok
  have bP : s.heap.BuiltinsAt X.mg P := TB.bm.keeps I.bk
  have oP : s.heap.get? P = some { cls := .none, data := .fields ps } := I.hok P _ hP
  have nofr : ∀ f, s.heap.objs.size ≤ f → f ∉ frs X.stack := fun f hf z => (List.mem_cons.mp (I.stkSub _ z)).elim (fun e => Nat.lt_irrefl _ (Nat.lt_of_lt_of_le (e ▸ I.lt) hf)) (I.nofs hf)
  refine PySem.W.kla_eval hdef ?_
  cases hc : codeAmong pos ps.toList with
  | some cv =>
    obtain ⟨c', rfl, hco⟩ := ha pos cv hc
    refine PySem.W.kla_makeFunctionHit (mg := X.mg) (c := c) (P := P) (ps := ps) (closure_ok hfree) I.ok.glob (I.mod.glob.keeps I.bk) hcode (TB.code.keeps I.bk) oP ht hc bP fun ctv h' tk hx hsz => ?_
    exact go h'.objs.size c' ((X.mg "__name__").getD .none) ctv H _ (I.kept fun b o e => Heap.get?_push_of_some _ (hx b o e)) .refl hT (Heap.get?_push_size _ rfl) (I.hok.fresh hsz) (nofr _ hsz) hco
  | none =>
    refine PySem.W.kla_makeFunction (mg := X.mg) (c := c) (P := P) (ps := ps) (closure_ok hfree) I.ok.glob (I.mod.glob.keeps I.bk) hcode (TB.code.keeps I.bk) oP ht hc TB.gP bP fun c' ctv h' tk hx hge hlt hrec htb => ?_
    obtain ⟨c2, oc, vs, t, e2, hoc, hd, hv⟩ := hrec
    cases e2
    have hsz : s.heap.objs.size ≤ h'.objs.size := Nat.le_trans hge (Nat.le_of_lt hlt)
    have nC : H c' = none := I.hok.fresh hge
    have I1 := inv_table (t' := tk) (more := #[rawInt pos.line, rawInt pos.col, .ref c']) (h' := h'.push (PySem.W.kla_obj "<lambda>" (X.env.qual ++ "<lambda>") params body scope (cloFrom X.env.cells scope.names []) ((X.mg "__name__").getD .none) c' ctv)) I hP
      (fun b o hb e => Heap.get?_push_of_some _ (hx b o hb e)) (Heap.get?_push_of_some _ htb) hge ⟨oc, vs, t, Heap.get?_push_of_some _ hoc, hd, hv⟩
    refine go h'.objs.size c' ((X.mg "__name__").getD .none) ctv _ _ I1 (fun b o n e => ?_) (tabs_grow hT hP hu hm nC) (Heap.get?_push_size _ rfl) ?_ (nofr _ hsz) upd_same
    · rw [upd_ne (fun z => by rw [z, nC] at e; cases e), upd_ne fun z => n (by rw [z]; simp)]
      exact e
    · rw [upd_ne (Nat.ne_of_gt hlt), upd_ne (Nat.ne_of_gt (Nat.lt_of_lt_of_le (Heap.lt_size oP) hsz))]
      exact I.hok.fresh hsz
end
/-- x(lambda: body), told so -/
def tLamP (P : Addr) (T : List (Addr × Str)) (TT : (XK → Hp → VK → Prop) → Hp → VK → Prop) (t : XK → TE) : TE := fun σ H Q => Tabs T H ∧ ∀ H1, Ext [P] H H1 → Tabs T H1 → TT (fun E H' Q' => t E σ H' Q') H1 Q
theorem pe_lamcallP {X : Cx} {T : List (Addr × Str)} {TT : (XK → Hp → VK → Prop) → Hp → VK → Prop} {x a : Str} {g c P : Addr} {k : Nat} {pg : Arguments} {bg : List Stmt} {sg : Scope} {dV kV doc pm cdv ct oc : Value} {an od : Option Addr} {osl : Array (Option Value)} {Ng : List Str}
    {params : Arguments} {body : Expr} {scope : Scope} {t : XK → TE} {p lpos pos : Pos} (hg : Gl X x) (hm : X.mg x = some (.ref g)) (hk : PySem.W.keepIn X.K (.ref g) = true)
    (lk : X.K.lookup g = some ⟨oc, od, .func (PySem.W.fnOf x x pg bg sg dV kV doc pm an cdv ct), osl⟩) (hcg : PySem.W.codeIn X.K cdv x = true) (hb : L2.Binds X.K (PySem.W.fnOf x x pg bg sg dV kV doc pm an cdv ct) [a] []) (Sg : FnScope Ng [a] sg) (hNg : Ng[0]? = some a) (hva : Vis sg a)
    (hG : GivesTo X Ng x sg g cdv bg a (X.env.qual ++ "<lambda>") TT)
    (TB : TabB X.base X.mg c P) (hcode : X.env.code = .ref c) (hmT : (P, X.env.qual ++ "<lambda>") ∈ T) (hu : ∀ p ∈ T, p.1 = P → p.2 = X.env.qual ++ "<lambda>") (hr : Room (k + 2) X.A) (L : LamS X.env.scope scope) (hdef : defaultsOf params X.env = ([], []))
    (hbind : ∀ (q : Str) (cl : List (Str × Addr)) (pm cv ctv : Value), bindArgs (PySem.W.kla_fn "<lambda>" q params body scope cl pm cv ctv) ⟨[], []⟩ = pure [])
    (hbody : ∀ (A : Around) (outer : List Env) (s : Shared) (H : Hp) (E : XK) (f c' : Addr), Room k (A.deeper (lamEnv X scope s.heap.objs.size f c')) → PE (lamCx X A outer s H E scope f c') body (t E))
    (hdb : (x == ("__debug__" : Str)) = false := by decide) (hd : (a == ("__debug__" : Str)) = false := by decide) (hcd : (a == ("__classdict__" : Str)) = false := by decide) :
    PE X (.Call (.Name x p) [.Lambda params body scope lpos] [] pos) (tLamP P T TT t) := by
  refine ⟨fun pins s σ H Q I ⟨hT, h⟩ => ?_⟩
  refine wpAny_Call_Name_kw (ld_glob I hg hm (PySem.W.callWith_K (h₀ := X.base) I.ok.mod.kin hk ?_ (by rfl) (by rfl)) hdb)
  show wpAny _ _ (spliced ((false, eval (.Lambda params body scope lpos) X.env) :: backTo pos (starEach [] X.env))) _ _ s
  refine Calls.spliced_cons (lam_madeP I TB hcode hmT hu hT hdef L fun f c' pm' ctv H1 s' I1 eP T1 hf hfn hfr hco => Calls.spliced_nil ⟨I1.kIn, wpAny_call ?_⟩)
  refine codeAny_mono (R := CR C8.CX0 X.stack X.prog X.w H1 s' Q C8.E0) ?_ fun r s2 hq => ?_
  · refine run_ofS (N := Ng) (ps := [a]) (us := [.ref f]) (vs := [.ref f]) lk hcg Sg hr I1.env0 (hb s' [.ref f] I1.kIn rfl) (.cons rfl .nil) rfl fun hr' => ?_
    obtain ⟨t', ht', hq'⟩ := hG f c' s' H1 Q (fun E H' Q' => t E σ H' Q') (fun W pn xe E p1 p2 tk hW => pe_act (i := 0) I1 L hf hfn hfr (hbind _ _ _ _ _) tk hW hr' (fun A outer s H hr2 => hbody A outer s H E f c' hr2) hNg hva hd hcd) hco (h H1 eP T1)
    exact ⟨t', ht'.nox, hq'⟩
  · match r, hq with
    | .ok (.ret u), hq => exact I1.after hq
    | .error e, hq => exact (show False from hq).elim
    | .ok .next, hq => exact (show False from hq).elim
    | .ok .brk, hq => exact (show False from hq).elim
    | .ok .cont, hq => exact (show False from hq).elim
end Nv
set_option Elab.async false
set_option linter.all false
set_option maxRecDepth 100000
/-! the value layer: places in lists; what is taken out of them -/
namespace Nv
open PySem PySem.Spec PyProof.Rows L2
section
variable {Y : Cx} {X : Vx} {K : PySem.W.Frag}
/-! ### l.index(n) -/
def eIndex (TO TI : WE) : WE := fun ρ Q Ex => TO ρ (fun r => ∃ ns : List Int, r.m = some (.L (ns.map PyData.int)) ∧ TI ρ (fun q => match q.s with | .p (.int n) => n ∈ ns ∧ Q (.p (.int (ns.idxOf n : Nat))) | _ => False) Ex) Ex
theorem idx_before {ns : List Int} {n : Int} : ∀ (m : Nat) (z : Int), m < ns.idxOf n → ns[m]? = some z → z ≠ n := by
  induction ns with
  | nil => intro m z h; simp at h
  | cons a r ih =>
    intro m z h hz e
    subst e
    rw [List.idxOf_cons] at h
    by_cases ha : a = z
    · simp [ha] at h
    · have hb : (a == z) = false := by simpa using ha
      rw [hb] at h
      simp only [cond_false] at h
      cases m with
      | zero => exact ha (Option.some.inj hz)
      | succ m => exact ih m z (by omega) (by simpa using hz) rfl
theorem ve_index {e : Expr} {TO TI : WE} (h : PE Y e (tBM X.K "list" (rIndex X.K) (liftE X TO) (tCons (liftE X TI) tNil))) : PE Y e (liftE X (eIndex TO TI)) := peV h fun σ H Q ⟨B, A, ρ, R, Po, Ex, h, xl, q⟩ => by
  refine ⟨B, A, ρ, R, _, Ex, h, xl, fun r v H1 p1 e1 k1 r1 => ?_⟩
  obtain ⟨ns, hm, p1⟩ := p1
  obtain ⟨a, rfl, hl⟩ := ints_m R.pool r1 hm
  refine ⟨.inl ⟨rfl, _, hl⟩, B, A, ρ, R.step e1 k1, _, Ex, p1, xl, fun r2 v2 H2 p2 e2 k2 r2' => ?_⟩
  have r2' := r2'.s
  split at p2
  · rename_i n er
    rw [er] at r2'
    cases r2'
    obtain ⟨a', e', hl2⟩ := ints_m R.pool (r1.ext e2 k1 R.pool) hm
    cases e'
    have hj : ns[ns.idxOf n]? = some n := by
      have := List.idxOf_lt_length_of_mem p2.1
      rw [List.getElem?_eq_getElem this, List.getElem_idxOf]
    refine ⟨a, ns.map V.int, .int n, ns.idxOf n, .int n, rfl, rfl, hl2, rfl, flat_int ns, by rw [List.getElem?_map, hj]; rfl, ?_, fun m z hm hz => ?_, q _ _ H2 p2.2 (e1.trans e2) k2 (.int _)⟩
    · have := inV_int n [n]
      simpa [inV] using this
    · rw [List.getElem?_map] at hz
      obtain ⟨y, hy, rfl⟩ := Option.map_eq_some_iff.mp hz
      have hne := idx_before m y hm hy
      have := inV_int n [y]
      simp [inV] at this
      cases q : eqV (.int y) (.int n) with
      | false => rfl
      | true => exact absurd (by simpa [q] using this) (fun z => hne (by first | exact z.symm | exact z))
  · exact p2.elim
/-! ### l.append(m.pop(n)) -/
def sAppendPop (i j : Nat) (T : WE) : WS := fun ρ E Ex => match sg ρ i, sg ρ j with
  | .mu (.L ds), .mu (.L es) => i ≠ j ∧ T ρ (fun r => match r.s with | .p (.int n) => ∃ d, 0 ≤ n ∧ n < es.length ∧ es[n.toNat]? = some d ∧ es.length < 4611686018427387904 ∧ ds.length < sizeLine ∧ E.nx ((ρ.set j (.mu (.L (es.eraseIdx n.toNat)))).set i (.mu (.L (ds ++ [d])))) | _ => False) Ex
  | _, _ => False
theorem vs_appendPop {st : Stmt} {i j : Nat} {T : WE} (h : PS Y st (tDrop (tBM K "list" rAppend (tVar i) (tCons (tBM K "list" rPopAt (tVar j) (tCons (liftE X T) tNil)) tNil)))) : PS Y st (liftS X (sAppendPop i j T)) := psV h fun D σ H ⟨B, A, ρ, R, E, Ex, h, xl, l⟩ => by
  unfold sAppendPop at h
  split at h
  · rename_i ds es em ej
    obtain ⟨ij, h⟩ := h
    obtain ⟨v, L, h1, ⟨a, vs, rfl, rfl, ha, hp⟩, h3⟩ := R.rl.get_mu em
    obtain ⟨u, L2, g1, ⟨b, ws, rfl, rfl, hb, gp⟩, g3⟩ := R.rl.get_mu ej
    refine ⟨_, h1, .inl ⟨rfl, vs, .inl (.inl ha)⟩, _, g1, .inl ⟨rfl, ws, .inl (.inl hb)⟩, B, A, ρ, R, _, Ex, h, xl, fun r y H1 p1 e1 k1 r1 => ?_⟩
    have r1 := r1.s
    split at p1
    · rename_i n er
      rw [er] at r1
      cases r1
      obtain ⟨d, n0, n1, hd, hs, hl, hn⟩ := p1
      have aP : a ∉ B.P := R.anew a (h3 a (by simp))
      have bP : b ∉ B.P := R.anew b (g3 b (by simp))
      have hb1 := e1 _ _ bP hb
      have gp1 := gp.ext e1 R.pool.lsts
      obtain ⟨y, hy, py⟩ := gp1.get' hd
      obtain ⟨k, hk⟩ : ∃ k : Nat, n = k := ⟨n.toNat, by omega⟩
      subst hk
      rw [Int.toNat_natCast] at *
      have wl := gp.len
      refine ⟨b, ws, k, k, y, rfl, rfl, hb1, by omega, by rw [show (2 : Int) ^ 63 = 9223372036854775808 by decide]; omega, ?_, hy, ?_⟩
      · unfold seqIndex?
        rw [wl]
        simp
        omega
      -- the one taken out, then the other one
      have e2 : Ext [b] H1 (upd H1 b (.lst (ws.eraseIdx k))) := .wr (by simp)
      obtain ⟨A1, R1⟩ := R.wr (H' := upd H1 b (.lst (ws.eraseIdx k))) (m' := .L (es.eraseIdx k)) ej g1 (k1.ext e2 (one_notP bP) (noX_l hb1)) fun L ho nP => by
        obtain ⟨a', vs', e', rfl, ha', hp'⟩ := ho
        cases e'
        exact ⟨[b] ++ B.P, [b], ext_two e1 e2, fun b z => List.mem_append.mp z, ⟨b, _, rfl, rfl, upd_same, (gp1.erase k).ext e2 (one_lst hb1)⟩, fun b z => .inl z⟩
      have em2 : sg (ρ.set j (.mu (.L (es.eraseIdx k)))) i = .mu (.L ds) := by rw [sg_set_ne (Ne.symm ij)]; exact em
      obtain ⟨v', L', f1, ⟨a2, vs2, e', rfl, fa, fp⟩, f3⟩ := R1.rl.get_mu em2
      rw [h1] at f1
      cases f1
      cases e'
      refine ⟨a, vs2, y, rfl, rfl, fa, by rw [fp.len]; exact hl, ?_⟩
      have py2 : Pu (upd H1 b (.lst (ws.eraseIdx k))) y d := py.ext e2 (one_lst hb1)
      have e3 : Ext [a] (upd H1 b (.lst (ws.eraseIdx k))) (upd (upd H1 b (.lst (ws.eraseIdx k))) a (.lst (vs2 ++ [y]))) := .wr (by simp)
      obtain ⟨A2, R2⟩ := R1.wr (H' := upd (upd H1 b (.lst (ws.eraseIdx k))) a (.lst (vs2 ++ [y]))) (m' := .L (ds ++ [d])) em2 h1 (R1.pool.ext e3 (one_notP aP) (noX_l fa)) fun L ho nP => by
        obtain ⟨a', vs', e', rfl, ha', hp'⟩ := ho
        cases e'
        exact ⟨[a], [a], e3, fun b z => .inl z, ⟨a, _, rfl, rfl, upd_same, (fp.append (.cons py2 .nil)).ext e3 (one_lst fa)⟩, fun b z => .inl z⟩
      exact l.nx _ A2 σ _ hn R2
    · exact p1.elim
  · exact h.elim
end
end Nv
set_option Elab.async false
set_option linter.all false
set_option maxRecDepth 100000
/-! the value layer: defs that make lambdas; the law itself -/
namespace Nv
open PySem PySem.Spec PyProof.Rows L2
/-! ### a def that knows its tables -/
def slT (TT : List (Addr × Str)) : Vl → Sl
  | .pl => .pt TT
  | r => slOf r
def startT (TT : List (Addr × Str)) (N : List Str) (rs : List Vl) : Env' := rs.map (slT TT) ++ List.replicate (N.length - rs.length) .un
def spLm (K : PySem.W.Frag) (TT : List (Addr × Str)) (S : Spec) : Sp := fun vs H Q _ => ∃ (P : Pd) (S0 : List Addr) (rs : List Vl) (Po : Vl → Prop), P.tt = TT ∧ PoolOk P H ∧ (∀ a ∈ S0, H a ≠ none) ∧ Paired (AR K P S0 H) vs rs ∧ S rs Po (fun _ _ => False) ∧
  ∀ r v H', Po r → Ext P.ad H H' → PoolOk P H' → RR K ⟨P, S0, H, []⟩ H' v r → Q v H'
theorem spLm_len {K : PySem.W.Frag} {TT : List (Addr × Str)} {S : Spec} {n : Nat} (hS : ∀ rs Po Ex, S rs Po Ex → rs.length = n) {vs : List V} {H : Hp} {Q : VK} {E : XK} (h : spLm K TT S vs H Q E) : vs.length = n := by
  obtain ⟨P, S0, rs, Po, _, _, _, h1, h2, _⟩ := h
  rw [Paired.len h1, hS rs Po _ h2]
theorem enterLm {K : PySem.W.Frag} {TT : List (Addr × Str)} {cl : Str → Addr → Prop} {S : Spec} {vs : List V} {H : Hp} {Q : VK} {E : XK} {N : List Str} {T : WS} (h : spLm K TT S vs H Q E) (go : ∀ rs Po, S rs Po (fun _ _ => False) → T (startT TT N rs) { nx := fun _ => Po (.p .none), rt := Po } fun _ _ => False) :
    liftS ⟨K, cl, E⟩ T { nx := fun _ H' => Q .non H', rt := Q } (L2.start N vs) H := by
  obtain ⟨P, S0, rs, Po, et, kp, ks, ha, hs, q⟩ := h
  have un : ∀ n : Nat, Rl K ⟨P, S0, H, []⟩ ([] ++ P.ad) H (List.replicate n none) (List.replicate n .un) [] := by
    intro n
    induction n with
    | zero => exact .nil
    | succ n ih => exact .un ih
  have r : Rl K ⟨P, S0, H, []⟩ ([] ++ P.ad) H (L2.start N vs) (startT TT N rs) [] := by
    unfold L2.start startT
    rw [Paired.len ha]
    generalize N.length - rs.length = n
    clear hs q
    induction ha with
    | nil => exact un n
    | @cons v r vs rs h1 _ ih =>
      cases r with
      | p d => exact .im h1 ih
      | o d => exact .od h1 ih
      | k m => exact .rd h1 ih
      | pl =>
        obtain ⟨p, l, R', e, rfl⟩ := h1
        exact .pt e et ih
      | b m => exact h1.elim
      | f m => exact h1.elim
  refine ⟨⟨P, S0, H, []⟩, [], _, ⟨r, .refl, by simp, kp, kp, ks, by simp⟩, _, _, go rs Po hs, fun _ _ _ _ _ _ z => z.elim, ?_, ?_, ?_, fun r v H' hr he hk hv => q r v H' hr he hk hv⟩
  · intro ρ A σ H' n R
    exact q _ _ H' n R.ext R.pool .non
  · exact fun _ _ _ _ n => n.elim
  · exact fun _ _ _ _ n => n.elim
section
variable {K : PySem.W.Frag} {TT : List (Addr × Str)} {cl : Str → Addr → Prop} {vs : List V} {H : Hp} {Q : VK} {E : XK} {N : List Str} {T : WS}
theorem enterL1 {S : S1} (h : spLm K TT (sv1 S) vs H Q E) (go : ∀ a Po, S a Po (fun _ _ => False) → T (startT TT N [a]) { nx := fun _ => Po (.p .none), rt := Po } fun _ _ => False) : liftS ⟨K, cl, E⟩ T { nx := fun _ H' => Q .non H', rt := Q } (L2.start N vs) H :=
  enterLm h fun rs Po h => by unfold sv1 at h; split at h <;> first | exact go _ Po h | exact h.elim
theorem enterL2 {S : S2} (h : spLm K TT (sv2 S) vs H Q E) (go : ∀ a b Po, S a b Po (fun _ _ => False) → T (startT TT N [a, b]) { nx := fun _ => Po (.p .none), rt := Po } fun _ _ => False) : liftS ⟨K, cl, E⟩ T { nx := fun _ H' => Q .non H', rt := Q } (L2.start N vs) H :=
  enterLm h fun rs Po h => by unfold sv2 at h; split at h <;> first | exact go _ _ Po h | exact h.elim
theorem enterL3 {S : S3} (h : spLm K TT (sv3 S) vs H Q E) (go : ∀ a b c Po, S a b c Po (fun _ _ => False) → T (startT TT N [a, b, c]) { nx := fun _ => Po (.p .none), rt := Po } fun _ _ => False) : liftS ⟨K, cl, E⟩ T { nx := fun _ H' => Q .non H', rt := Q } (L2.start N vs) H :=
  enterLm h fun rs Po h => by unfold sv3 at h; split at h <;> first | exact go _ _ _ Po h | exact h.elim
theorem enterL4 {S : S4} (h : spLm K TT (sv4 S) vs H Q E) (go : ∀ a b c d Po, S a b c d Po (fun _ _ => False) → T (startT TT N [a, b, c, d]) { nx := fun _ => Po (.p .none), rt := Po } fun _ _ => False) : liftS ⟨K, cl, E⟩ T { nx := fun _ H' => Q .non H', rt := Q } (L2.start N vs) H :=
  enterLm h fun rs Po h => by unfold sv4 at h; split at h <;> first | exact go _ _ _ _ Po h | exact h.elim
theorem enterL5 {S : S5} (h : spLm K TT (sv5 S) vs H Q E) (go : ∀ a b c d e Po, S a b c d e Po (fun _ _ => False) → T (startT TT N [a, b, c, d, e]) { nx := fun _ => Po (.p .none), rt := Po } fun _ _ => False) : liftS ⟨K, cl, E⟩ T { nx := fun _ H' => Q .non H', rt := Q } (L2.start N vs) H :=
  enterLm h fun rs Po h => by unfold sv5 at h; split at h <;> first | exact go _ _ _ _ _ Po h | exact h.elim
end
/-- such a def is called; the pool stands in slot i -/
def eCallLm (TT : List (Addr × Str)) (i : Nat) (S : Spec) (T : WA) : WE := fun ρ Q Ex => sg ρ i = .pt TT ∧ T ρ (fun rs => S (rs.map argOf) Q fun _ _ => False) Ex
theorem ve_callLm {Y : Cx} {X : Vx} {S : Spec} {T : WA} {TT : List (Addr × Str)} {e : Expr} {E : XK} (i : Nat) (h : PE Y e (tCall (spLm X.K TT S) [] E (liftA X T))) : PE Y e (liftE X (eCallLm TT i S T)) := peV h fun σ H Q => by
  rintro ⟨B, A, ρ, R, Po, Ex, ⟨ht, h⟩, xl, q⟩
  obtain ⟨_, _, _, _, _, et⟩ := R.rl.get_pt ht
  refine ⟨B, A, ρ, R, _, Ex, h, xl, fun rs vs H1 p1 e1 k1 r1 => ?_⟩
  have kp : ∀ a ∈ B.P, H a ≠ none := fun a z => R.pool.lsts.some z
  have old : ∀ a ∈ A ++ B.S0, H1 a ≠ none := fun a z w => by
    rcases List.mem_append.mp z with z | z
    · have := pool_back k1 e1 w
      exact R.lsts.some z this
    · exact R.s0 a z (R.sub (pool_back k1 e1 w))
  refine ⟨B.PP, A ++ B.S0, _, _, et, k1, old, ?_, p1, fun r v H' hr he hk hv => ?_⟩
  · have := r1.args (H1 := H1) R.pool (fun a z => pool_back k1 e1 z) kp
    rwa [List.append_nil]
  · exact q r v H' hr (e1.trans he) hk (hv.vr e1 k1)
/-! ### within a lambda all is read alone -/
def roS : Sl → Sl
  | .mu m => .rd m
  | s => s
def roE (ρ : Env') : Env' := ρ.map roS
theorem Rl.ro {K : PySem.W.Frag} {B B' : Bs} {T T' A : List Addr} {H : Hp} {σ : L2.St} {ρ : Env'} (e : B'.PP = B.PP) (hT : ∀ a ∈ T', a ∈ T) (hS : ∀ a ∈ T' ++ B'.S0, a ∈ T ++ B.S0) (h : Rl K B T H σ ρ A) : (∀ a ∈ A, a ∉ T') → Rl K B' T' H σ (roE ρ) [] := by
  induction h with
  | nil => exact fun _ => .nil
  | un _ ih => exact fun n => .un (ih n)
  | im p _ ih => exact fun n => .im p (ih n)
  | od p _ ih => exact fun n => .od (p.off fun a z => .inl (hS a z)) (ih n)
  | rd p _ ih => exact fun n => .rd (p.off fun a z => .inl (hT a z)) (ih n)
  | mu o _ _ ih => exact fun n => .rd (o.rm fun a z => n a (List.mem_append_left _ z)) (ih fun a z => n a (List.mem_append_right _ z))
  | pl p _ ih => exact fun n => .pl (by unfold Bs.P; rw [e]; exact p) (ih n)
  | pt p t _ ih => exact fun n => .pt (by unfold Bs.P; rw [e]; exact p) (by rw [e]; exact t) (ih n)
theorem Rep.ro {K : PySem.W.Frag} {B : Bs} {A : List Addr} {H : Hp} {σ : L2.St} {ρ : Env'} (R : Rep K B A H σ ρ) : Rep K ⟨B.PP, A ++ B.S0, H, []⟩ [] H σ (roE ρ) where
  rl := Rl.ro (B := B) rfl (fun a z => List.mem_append_right _ z) (fun a z => by
    have z : a ∈ B.P ++ (A ++ B.S0) := z
    show a ∈ (A ++ B.P) ++ B.S0
    simp only [List.mem_append] at z ⊢
    rcases z with z | z | z <;> simp [z]) R.rl fun a z w => R.pnew a w z
  ext := .refl
  new := by simp
  pool := R.pool
  pool0 := R.pool
  s0 := fun a z w => by
    rcases List.mem_append.mp z with z | z
    · exact R.lsts.some z w
    · exact R.s0 a z (R.sub w)
  gh := by simp
/-- what is heard of a lambda; the pool stands in slot i -/
def eHeard (TT : List (Addr × Str)) (i : Nat) (nms : List Str) (U : WE) : WE := fun ρ Q _ => sg ρ i = .pt TT ∧ U (roE ρ) (fun r => match r.od1 with | some d => Q (.o (.tuple [.str "told", d])) | none => False) fun nm d => nm ∈ nms ∧ Q (.o (.tuple [.str nm, d, .bool true]))
theorem tabs_pool {TT : List (Addr × Str)} {P : Pd} {H H1 : Hp} {a : Addr} {q : Str} (k : PoolOk P H) (et : P.tt = TT) (hm : (a, q) ∈ TT) : LamX.Tabs TT H ∧ (Ext [a] H H1 → LamX.Tabs TT H1 → Ext P.ad H H1 ∧ PoolOk P H1) := by
  rcases k with rfl | ⟨p, l, T, rfl, hp, ht⟩
  · cases et; cases hm
  · have et : T = TT := et
    subst et
    refine ⟨ht, fun e t => ⟨e.mono fun x z => ?_, .inr ⟨p, l, T, rfl, hp.ext e ?_ ?_, t⟩⟩⟩
    · rw [List.mem_singleton.mp z]
      exact List.mem_append_right _ (List.mem_map.mpr ⟨(a, q), hm, rfl⟩)
    · intro z
      obtain ⟨qs, h1, _⟩ := ht _ hm
      obtain ⟨_, x, y, ns, h2, _⟩ := hp
      rw [List.mem_singleton.mp z] at h2
      rw [h2] at h1; cases h1
    · intro z
      obtain ⟨qs, h1, _⟩ := ht _ hm
      obtain ⟨_, x, y, ns, _, h2, _⟩ := hp
      rw [List.mem_singleton.mp z] at h2
      rw [h2] at h1; cases h1
/-! ### the law: its pool is made, its tables are empty -/
theorem tabs_start {TT : List (Addr × Str)} {H : Hp} (h : ∀ p ∈ TT, H p.1 = some (.tbl #[])) : LamX.Tabs TT H := fun p hp => LamX.TabS.nil (h p hp)
theorem law_start {K : PySem.W.Frag} {TT : List (Addr × Str)} {cl : Str → Addr → Prop} {a p l : Addr} {H : Hp} {Q : VK} {E : XK} {n : Nat} {T : WS} (hp : PoolAt H p l) (ht : LamX.Tabs TT H) (q : ∀ H', Q (.bl true) H')
    (go : T (.un :: .pt TT :: List.replicate n .un) { nx := fun _ => False, rt := fun r => r = .p (.bool true) } fun _ _ => False) : liftS ⟨K, cl, E⟩ T { nx := fun _ H' => Q .non H', rt := Q } (some (.ref a) :: some (.ref p) :: List.replicate n none) H := by
  have un : ∀ n : Nat, Rl K ⟨⟨[p, l], TT⟩, [], H, []⟩ ([] ++ Pd.ad ⟨[p, l], TT⟩) H (List.replicate n none) (List.replicate n .un) [] := by
    intro n
    induction n with
    | zero => exact .nil
    | succ n ih => exact .un ih
  have k : PoolOk ⟨[p, l], TT⟩ H := .inr ⟨p, l, TT, rfl, hp, ht⟩
  refine ⟨⟨⟨[p, l], TT⟩, [], H, []⟩, [], _, ⟨.un (.pt (R := TT.map (·.1)) rfl rfl (un n)), .refl, by simp, k, k, by simp, by simp⟩, _, _, go, fun _ _ _ _ _ _ z => z.elim, ?_, ?_, ?_, fun r v H' hr he hk hv => ?_⟩
  · exact fun _ _ _ _ n => n.elim
  · exact fun _ _ _ _ n => n.elim
  · exact fun _ _ _ _ n => n.elim
  · subst hr
    cases hv
    exact q H'
end Nv
set_option Elab.async false
set_option linter.all false
set_option maxRecDepth 100000
/-! the least rows to the states, in the order of meeting; dicts that hold them -/
namespace Nv
open PySem PySem.Spec PyProof.Rows L2
abbrev Row := List Nat
def addR (L : List (Nat × Row)) (r : Row) : State → List (Nat × Row)
  | [] => L
  | p :: ms => addR (if p.2 ∈ L.map (·.1) then L else L ++ [(p.2, r ++ [p.1])]) r ms
def stR (b : Book) (st : Nat) : Nat → List (Nat × Row)
  | 0 => [(st, [])]
  | i + 1 => match (stR b st i)[i]? with
    | some q => addR (stR b st i) q.2 (mvs b q.1)
    | none => stR b st i
def ordR (b : Book) (st : Nat) : List (Nat × Row) := stR b st b.length
theorem addR_append : ∀ (l m : State) (L : List (Nat × Row)) (r : Row), addR L r (l ++ m) = addR (addR L r l) r m
  | [], _, _, _ => rfl
  | p :: l, m, L, r => addR_append l m _ r
theorem addR_take {L G : List (Nat × Row)} {r : Row} {p : Nat × Nat} {ms : State} {k : Nat} (h : ms[k]? = some p) (e : L = addR G r (ms.take k)) : addR G r (ms.take (k + 1)) = if p.2 ∈ L.map (·.1) then L else L ++ [(p.2, r ++ [p.1])] := by
  rw [List.take_add_one, h]
  show addR G r (ms.take k ++ [p]) = _
  rw [addR_append, ← e]
  rfl
theorem addR_pre : ∀ (l : State) (L : List (Nat × Row)) (r : Row), L <+: addR L r l
  | [], L, _ => List.prefix_refl _
  | p :: l, L, r => by
    show L <+: addR (if p.2 ∈ L.map (·.1) then L else L ++ [(p.2, r ++ [p.1])]) r l
    split
    · exact addR_pre l L r
    · exact (List.prefix_append _ _).trans (addR_pre l _ r)
theorem stR_step {b : Book} {st i : Nat} {q : Nat × Row} (h : (stR b st i)[i]? = some q) : stR b st (i + 1) = addR (stR b st i) q.2 (mvs b q.1) := by
  show (match (stR b st i)[i]? with
    | some q => addR (stR b st i) q.2 (mvs b q.1)
    | none => stR b st i) = _
  rw [h]
theorem stR_rest {b : Book} {st i : Nat} (h : (stR b st i).length ≤ i) : ∀ k, stR b st (i + k) = stR b st i
  | 0 => rfl
  | k + 1 => by
    have ih := stR_rest h k
    show (match (stR b st (i + k))[i + k]? with
      | some q => addR (stR b st (i + k)) q.2 (mvs b q.1)
      | none => stR b st (i + k)) = _
    rw [ih, List.getElem?_eq_none (by omega)]
theorem stR_end {b : Book} {st i : Nat} (h : (stR b st i).length ≤ i) (hi : i ≤ b.length) : ordR b st = stR b st i := by
  obtain ⟨k, hk⟩ := Nat.le.dest hi
  unfold ordR
  rw [← hk]
  exact stR_rest h k
/-- keys apart, below n -/
structure KeysOk (n : Nat) (L : List (Nat × Row)) : Prop where
  nd : (L.map (·.1)).Nodup
  lt : ∀ q ∈ L, q.1 < n
theorem KeysOk.len {n : Nat} {L : List (Nat × Row)} (h : KeysOk n L) : L.length ≤ n := by
  have := nodup_le h.nd (n := n) fun s hs => by
    obtain ⟨q, hq, rfl⟩ := List.mem_map.mp hs
    exact h.lt q hq
  simpa using this
theorem KeysOk.push {n : Nat} {L : List (Nat × Row)} {q : Nat × Row} (h : KeysOk n L) (hq : q.1 ∉ L.map (·.1)) (hn : q.1 < n) : KeysOk n (L ++ [q]) where
  nd := by
    rw [List.map_append, List.nodup_append]
    exact ⟨h.nd, by simp, fun a ha c hc => by
      rw [show c = q.1 by simpa using hc]
      exact fun z => hq (z ▸ ha)⟩
  lt := fun x hx => by
    rcases List.mem_append.mp hx with hx | hx
    · exact h.lt x hx
    · rw [List.mem_singleton.mp hx]
      exact hn
theorem KeysOk.addR {n : Nat} {r : Row} : ∀ {ms : State} {L : List (Nat × Row)}, KeysOk n L → (∀ p ∈ ms, p.2 < n) → KeysOk n (addR L r ms)
  | [], _, h, _ => h
  | p :: ms, L, h, hm => by
    show KeysOk n (Nv.addR (if p.2 ∈ L.map (·.1) then L else L ++ [(p.2, r ++ [p.1])]) r ms)
    refine KeysOk.addR ?_ fun x hx => hm x (List.mem_cons_of_mem _ hx)
    split
    · exact h
    · exact h.push (by assumption) (hm p (List.mem_cons_self ..))
theorem stR_ok {b : Book} {st : Nat} (hs : st < b.length) (hb : ∀ s, ∀ p ∈ mvs b s, p.2 < b.length) : ∀ i, KeysOk b.length (stR b st i)
  | 0 => ⟨by simp [stR], fun q hq => by rw [List.mem_singleton.mp hq]; exact hs⟩
  | i + 1 => by
    have ih := stR_ok hs hb i
    cases h : (stR b st i)[i]? with
    | none => rw [stR_rest (List.getElem?_eq_none_iff.mp h) 1]; exact ih
    | some q => rw [stR_step h]; exact ih.addR (hb q.1)
theorem addR_keys : ∀ (ms : State) (L : List (Nat × Row)) (r : Row), (addR L r ms).map (·.1) = addS (L.map (·.1)) ms
  | [], _, _ => rfl
  | p :: ms, L, r => by
    show (addR (if p.2 ∈ L.map (·.1) then L else L ++ [(p.2, r ++ [p.1])]) r ms).map (·.1) = addS (if p.2 ∈ L.map (·.1) then L.map (·.1) else L.map (·.1) ++ [p.2]) ms
    rw [addR_keys ms]
    split <;> simp
theorem stR_keys (b : Book) : ∀ i, (stR b 0 i).map (·.1) = stB b i
  | 0 => rfl
  | i + 1 => by
    have ih := stR_keys b i
    cases h : (stR b 0 i)[i]? with
    | none =>
      have h1 := List.getElem?_eq_none_iff.mp h
      rw [stR_rest h1 1, stB_rest (i := i) (by rw [← ih, List.length_map]; exact h1) 1, ih]
    | some q =>
      have h2 : (stB b i)[i]? = some q.1 := by rw [← ih, List.getElem?_map, h]; rfl
      rw [stR_step h, stB_step h2, addR_keys, ih]
theorem ordR_keys (b : Book) : (ordR b 0).map (·.1) = ordB b := stR_keys b b.length
theorem addR_rows {n : Nat} {r : Row} (hr : r.length < n) : ∀ {ms : State} {L : List (Nat × Row)}, (∀ q ∈ L, q.2.length ≤ n) → ∀ q ∈ addR L r ms, q.2.length ≤ n
  | [], _, h => h
  | p :: ms, L, h => by
    show ∀ q ∈ addR (if p.2 ∈ L.map (·.1) then L else L ++ [(p.2, r ++ [p.1])]) r ms, q.2.length ≤ n
    refine addR_rows hr ?_
    split
    · exact h
    · intro q hq
      rcases List.mem_append.mp hq with hq | hq
      · exact h q hq
      · rw [List.mem_singleton.mp hq]
        simp
        omega
theorem stR_rows {b : Book} {st : Nat} : ∀ i, ∀ q ∈ stR b st i, q.2.length ≤ i
  | 0, q, hq => by rw [List.mem_singleton.mp hq]; exact Nat.le_refl _
  | i + 1, q, hq => by
    have ih := stR_rows (b := b) (st := st) i
    cases h : (stR b st i)[i]? with
    | none =>
      rw [stR_rest (List.getElem?_eq_none_iff.mp h) 1] at hq
      exact Nat.le_succ_of_le (ih q hq)
    | some x =>
      rw [stR_step h] at hq
      exact addR_rows (n := i + 1) (Nat.lt_succ_of_le (ih x (List.mem_of_getElem? h))) (fun y hy => Nat.le_succ_of_le (ih y hy)) q hq
/-! ### as data -/
def rwD (r : Row) : D := .tuple (r.map fun n : Nat => .int (n : Int))
def frK (L : List (Nat × Row)) : List (Key × D) := L.map fun q => (kN q.1, rwD q.2)
theorem frK_len (L : List (Nat × Row)) : (frK L).length = L.length := by simp [frK]
theorem kN_inj {a b : Nat} (h : kN a = kN b) : a = b := by
  have := Sum.inl.inj h
  omega
theorem rwD_snoc (r : Row) (m : Nat) : (.tuple ((r.map fun n : Nat => .int (n : Int)) ++ [.int (m : Int)]) : D) = rwD (r ++ [m]) := by
  unfold rwD
  rw [List.map_append]
  rfl
/-- a dict from numbers: what stands at a key -/
theorem valD_map {α β : Type} {g : α → β} {key : α → Nat} : ∀ (L : List α) (s : Nat), valD (L.map fun q => (kN (key q), g q)) (kN s) = (L.find? fun q => key q == s).map g
  | [], _ => rfl
  | q :: r, s => by
    have ih := valD_map (g := g) (key := key) r s
    unfold valD at ih ⊢
    rw [List.map_cons, List.find?_cons, List.find?_cons]
    by_cases e : key q = s
    · rw [e]
      simp
    · have e1 : ¬ kN (key q) = kN s := fun z => e (kN_inj z)
      have e2 : (key q == s) = false := beq_eq_false_iff_ne.mpr e
      simp only [e1, decide_false, e2]
      exact ih
theorem valD_none {α β : Type} {g : α → β} {key : α → Nat} {L : List α} {s : Nat} (h : s ∉ L.map key) : valD (L.map fun q => (kN (key q), g q)) (kN s) = none := by
  rw [valD_map, List.find?_eq_none.mpr fun x hx => by
    simp only [beq_iff_eq]
    exact fun e => h (e ▸ List.mem_map.mpr ⟨x, hx, rfl⟩)]
  rfl
theorem valD_some {α β : Type} {g : α → β} {key : α → Nat} {L : List α} (nd : (L.map key).Nodup) {q : α} (h : q ∈ L) : valD (L.map fun q => (kN (key q), g q)) (kN (key q)) = some (g q) := by
  rw [valD_map]
  have : L.find? (fun x => key x == key q) = some q := by
    induction L with
    | nil => cases h
    | cons a r ih =>
      rw [List.find?_cons]
      rw [List.map_cons, List.nodup_cons] at nd
      rcases List.mem_cons.mp h with rfl | h
      · simp
      · have : (key a == key q) = false := beq_eq_false_iff_ne.mpr fun e => nd.1 (e ▸ List.mem_map.mpr ⟨q, h, rfl⟩)
        rw [this]
        exact ih nd.2 h
  rw [this]
  rfl
theorem putD_new {α β : Type} {g : α → β} {key : α → Nat} {L : List α} {q : α} (h : key q ∉ L.map key) : putD (L.map fun q => (kN (key q), g q)) (kN (key q)) (g q) = (L ++ [q]).map fun q => (kN (key q), g q) := by
  unfold putD
  rw [if_neg, List.map_append]
  · rfl
  · rw [List.any_eq_true]
    rintro ⟨x, hx, e⟩
    obtain ⟨a, ha, rfl⟩ := List.mem_map.mp hx
    have := kN_inj (of_decide_eq_true e)
    exact h (this ▸ List.mem_map.mpr ⟨a, ha, rfl⟩)
theorem valD_isSome {α β : Type} {g : α → β} {key : α → Nat} {L : List α} {s : Nat} : (valD (L.map fun q => (kN (key q), g q)) (kN s)).isSome = decide (s ∈ L.map key) := by
  rw [valD_map, Option.isSome_map]
  by_cases h : s ∈ L.map key
  · rw [decide_eq_true h]
    obtain ⟨q, hq, e⟩ := List.mem_map.mp h
    exact List.find?_isSome.mpr ⟨q, hq, by simp [e]⟩
  · rw [decide_eq_false h, List.find?_eq_none.mpr fun x hx => by
      simp only [beq_iff_eq]
      exact fun e => h (e ▸ List.mem_map.mpr ⟨x, hx, rfl⟩)]
    rfl
theorem frK_isSome {L : List (Nat × Row)} {s : Nat} : (valD (frK L) (kN s)).isSome = decide (s ∈ L.map (·.1)) := valD_isSome (g := fun q : Nat × Row => rwD q.2) (key := fun q : Nat × Row => q.1)
theorem frK_val {L : List (Nat × Row)} (nd : (L.map (·.1)).Nodup) {q : Nat × Row} (h : q ∈ L) : valD (frK L) (kN q.1) = some (rwD q.2) := valD_some (g := fun q : Nat × Row => rwD q.2) (key := fun q : Nat × Row => q.1) nd h
theorem frK_put {L : List (Nat × Row)} {q : Nat × Row} (h : q.1 ∉ L.map (·.1)) : putD (frK L) (kN q.1) (rwD q.2) = frK (L ++ [q]) := putD_new (g := fun q : Nat × Row => rwD q.2) (key := fun q : Nat × Row => q.1) h
theorem kD_kN (n : Nat) : kD (kN n) = .int (n : Int) := rfl
theorem keyD_nat (n : Nat) : keyD (.int (n : Int)) = some (kN n) := rfl
end Nv
set_option Elab.async false
set_option linter.all false
set_option maxRecDepth 100000
/-! books by their data, rows along them -/
namespace Nv
open PySem PySem.Spec PyProof.Rows L2
def stD (s : State) : D := .tuple (s.map mvD)
def bookD (b : Book) : D := .tuple (b.map stD)
theorem pairD_some {last n m : Int} {d : D} (h : pairD last n d = some m) : ∃ t : Int, d = .tuple [.int m, .int t] ∧ last + 1 ≤ m ∧ m ≤ 99 ∧ 0 ≤ t ∧ t ≤ n - 1 := by
  match d, h with
  | .tuple [.int k, .int t], h =>
    have h : (if last + 1 ≤ k ∧ k ≤ 99 ∧ 0 ≤ t ∧ t ≤ n - 1 then some k else none) = some m := h
    by_cases c : last + 1 ≤ k ∧ k ≤ 99 ∧ 0 ≤ t ∧ t ≤ n - 1
    · rw [if_pos c] at h
      cases h
      exact ⟨t, rfl, c⟩
    · rw [if_neg c] at h
      cases h
theorem pairs_form {n : Int} : ∀ {ds : List D} {last : Int}, -1 ≤ last → pairsD last n ds = true → ∃ s : State, ds = s.map mvD ∧ (s.map (·.1)).Pairwise (· < ·) ∧ ∀ p ∈ s, last < (p.1 : Int) ∧ p.1 ≤ 99 ∧ (p.2 : Int) < n
  | [], _, _, _ => ⟨[], rfl, .nil, by simp⟩
  | d :: r, last, hl, h => by
    rw [pairs_cons] at h
    obtain ⟨m, t, rfl, c, hr⟩ : ∃ m t : Int, d = .tuple [.int m, .int t] ∧ (last + 1 ≤ m ∧ m ≤ 99 ∧ 0 ≤ t ∧ t ≤ n - 1) ∧ pairsD m n r = true := by
      cases e : pairD last n d with
      | none => rw [e] at h; cases h
      | some m =>
        rw [e] at h
        obtain ⟨t, rfl, c⟩ := pairD_some e
        exact ⟨m, t, rfl, c, h⟩
    obtain ⟨s, rfl, h2, h3⟩ := pairs_form (by omega) hr
    refine ⟨(m.toNat, t.toNat) :: s, ?_, ?_, ?_⟩
    · show _ = mvD (m.toNat, t.toNat) :: s.map mvD
      unfold mvD
      rw [Int.toNat_of_nonneg (by omega), Int.toNat_of_nonneg (by omega)]
    · refine List.pairwise_cons.mpr ⟨fun x hx => ?_, h2⟩
      obtain ⟨p, hp, rfl⟩ := List.mem_map.mp hx
      have := (h3 p hp).1
      show m.toNat < p.1
      omega
    · intro p hp
      rcases List.mem_cons.mp hp with rfl | hp
      · exact ⟨by show last < (m.toNat : Int); omega, by show m.toNat ≤ 99; omega, by show (t.toNat : Int) < n; omega⟩
      · have := h3 p hp
        exact ⟨by omega, this.2⟩
theorem first_none {n : Int} : ∀ {ds : List D} {i : Nat}, firstBad n ds i = none → ∀ d ∈ ds, stateD n d = true
  | [], _, _, _, h => nomatch h
  | d :: r, i, h, e, he => by
    unfold firstBad at h
    by_cases c : stateD n d = true
    · rw [if_pos c] at h
      rcases List.mem_cons.mp he with rfl | he
      · exact c
      · exact first_none h e he
    · rw [if_neg c] at h
      cases h
theorem state_form {n : Int} {d : D} (h : stateD n d = true) : ∃ s : State, d = stD s ∧ s.length ≤ 5 ∧ (s.map (·.1)).Pairwise (· < ·) ∧ ∀ p ∈ s, p.1 ≤ 99 ∧ (p.2 : Int) < n := by
  unfold stateD at h
  split at h
  · rw [Bool.and_eq_true] at h
    obtain ⟨h1, h2⟩ := h
    obtain ⟨s, rfl, a, b⟩ := pairs_form (by omega) h2
    exact ⟨s, rfl, by simpa using of_decide_eq_true h1, a, fun p hp => (b p hp).2⟩
  · cases h
theorem states_form {n : Nat} : ∀ {ds : List D}, (∀ d ∈ ds, stateD n d = true) → ∃ b : Book, ds = b.map stD ∧ ∀ s ∈ b, StOk n s
  | [], _ => ⟨[], rfl, by simp⟩
  | d :: r, h => by
    obtain ⟨s, rfl, a, b, c⟩ := state_form (h d (by simp))
    obtain ⟨bs, rfl, hb⟩ := states_form fun d hd => h d (List.mem_cons_of_mem _ hd)
    refine ⟨s :: bs, rfl, fun x hx => ?_⟩
    rcases List.mem_cons.mp hx with rfl | hx
    · exact ⟨a, b, fun p hp => (c p hp).1, fun p hp => by have := (c p hp).2; omega⟩
    · exact hb x hx
theorem form_book {d : D} (h : formErr d = none) : ∃ b : Book, d = bookD b ∧ FormB b := by
  unfold formErr at h
  split at h
  · rename_i ds
    by_cases c : 1 ≤ ds.length ∧ ds.length ≤ 8
    · rw [if_pos c] at h
      obtain ⟨b, rfl, hb⟩ := states_form (first_none h)
      rw [List.length_map] at c hb
      exact ⟨b, rfl, c.1, c.2, hb⟩
    · rw [if_neg c] at h
      cases h
  · cases h
theorem pairs_ok {n : Int} : ∀ {s : State} {last : Int}, (s.map (·.1)).Pairwise (· < ·) → (∀ p ∈ s, last < (p.1 : Int) ∧ p.1 ≤ 99 ∧ (p.2 : Int) < n) → pairsD last n (s.map mvD) = true
  | [], _, _, _ => rfl
  | p :: r, last, h1, h2 => by
    rw [List.map_cons, pairs_cons]
    obtain ⟨a, b, c⟩ := h2 p (by simp)
    have e : pairD last n (mvD p) = some (p.1 : Int) := if_pos ⟨by omega, by omega, by omega, by omega⟩
    rw [e]
    rw [List.map_cons, List.pairwise_cons] at h1
    refine pairs_ok h1.2 fun q hq => ?_
    have := h1.1 q.1 (List.mem_map.mpr ⟨q, hq, rfl⟩)
    exact ⟨by omega, (h2 q (List.mem_cons_of_mem _ hq)).2⟩
theorem state_okD {n : Nat} {s : State} (h : StOk n s) : stateD n (stD s) = true := by
  unfold stateD stD
  simp only [List.length_map, Bool.and_eq_true, decide_eq_true_eq]
  refine ⟨h.few, pairs_ok h.rise fun p hp => ⟨by omega, h.msg p hp, by have := h.to p hp; omega⟩⟩
theorem first_okD {n : Int} : ∀ {ds : List D} {i : Nat}, (∀ d ∈ ds, stateD n d = true) → firstBad n ds i = none
  | [], _, _ => rfl
  | d :: r, i, h => by
    unfold firstBad
    rw [if_pos (h d (by simp))]
    exact first_okD fun e he => h e (List.mem_cons_of_mem _ he)
theorem form_noneD {b : Book} (fb : FormB b) : formErr (bookD b) = none := by
  show (if 1 ≤ (b.map stD).length ∧ (b.map stD).length ≤ 8 then firstBad (b.map stD).length (b.map stD) 0 else some (-1)) = none
  rw [List.length_map, if_pos ⟨fb.one, fb.eight⟩]
  refine first_okD fun d hd => ?_
  obtain ⟨s, hs, rfl⟩ := List.mem_map.mp hd
  exact state_okD (fb.st s hs)
theorem mvD_inj {p q : Nat × Nat} (h : mvD p = mvD q) : p = q := by
  unfold mvD at h
  injection h with h
  injection h with h1 h
  injection h with h2 _
  injection h1 with h1
  injection h2 with h2
  exact Prod.ext (by omega) (by omega)
theorem map_inj {α β : Type} {f : α → β} (hf : ∀ x y, f x = f y → x = y) : ∀ {l m : List α}, l.map f = m.map f → l = m
  | [], [], _ => rfl
  | [], _ :: _, h => by cases h
  | _ :: _, [], h => by cases h
  | x :: l, y :: m, h => by
    simp only [List.map_cons, List.cons.injEq] at h
    rw [hf _ _ h.1, map_inj hf h.2]
theorem stD_inj {s t : State} (h : stD s = stD t) : s = t := map_inj (fun _ _ => mvD_inj) (by unfold stD at h; injection h)
theorem bookD_inj {b c : Book} (h : bookD b = bookD c) : b = c := map_inj (fun _ _ => stD_inj) (by unfold bookD at h; injection h)
/-- all states are met: a right book -/
theorem ok_met {b : Book} (fb : FormB b) (h : ∀ s, s < b.length → s ∈ ordB b) : OkB b := by
  have m := metO fb
  refine { fb with reach := fun s hs => ?_ }
  have : ∀ (j s : Nat), (ordB b)[j]? = some s → Rch b s := by
    intro j
    induction j using Nat.strongRecOn with
    | _ j ih =>
      intro s hj
      by_cases j0 : j = 0
      · subst j0
        rw [m.zero] at hj
        cases hj
        exact .zero
      · obtain ⟨i, s', hi, e, p, hp, rfl⟩ := m.from_ j s hj j0
        exact .step (ih i hi s' e) hp
  obtain ⟨j, hj⟩ := List.mem_iff_getElem?.mp (h s hs)
  exact this j s hj
theorem met_ok {b : Book} (ok : OkB b) : ∀ s, s < b.length → s ∈ ordB b := fun s hs => by
  have m := metO ok.toFormB
  have : ∀ s, Rch b s → s ∈ ordB b := fun s h => by
    induction h with
    | zero => exact List.mem_of_getElem? m.zero
    | step _ hp ih => exact m.cl _ ih _ hp
  exact this s (ok.reach s hs)
/-! ### rows -/
def nextD (s : State) : D → Option Nat
  | .int i => (s.find? fun p => decide ((p.1 : Int) = i)).map (·.2)
  | _ => none
/-- the first wrong index of a row, counted from k on, from state st on -/
def rowBad (b : Book) (st : Nat) (k : Nat) : List D → Option Nat
  | [] => none
  | d :: r => match nextD (mvs b st) d with
    | some t => rowBad b t (k + 1) r
    | none => some k
/-- the states behind it, as far as it goes -/
def rowSts (b : Book) (st : Nat) : List D → List Nat
  | [] => []
  | d :: r => match nextD (mvs b st) d with
    | some t => t :: rowSts b t r
    | none => []
/-- a row's error: -1, or the first wrong index -/
def rowErr (b : Book) (d : D) : Option Int := match d with
  | .tuple ds => if ds.length ≤ 20000 then (rowBad b 0 0 ds).map fun n : Nat => (n : Int) else some (-1)
  | _ => some (-1)
/-- the dict of a state's moves -/
def kvD (s : State) : List (Key × D) := s.map fun q => (kN q.1, .int (q.2 : Int))
theorem kvD_pr (s : State) : s.map mvD = (kvD s).map prD := by
  unfold kvD
  rw [List.map_map]
  rfl
theorem kvD_merge {s : State} (h : (s.map (·.1)).Pairwise (· < ·)) : mergeD [] (kvD s) = kvD s := by
  rw [mergeD_new]
  · rfl
  · have : (kvD s).map (·.1) = (s.map (·.1)).map kN := by unfold kvD; rw [List.map_map, List.map_map]; rfl
    rw [List.map_nil, List.nil_append, this]
    have nd : (s.map (·.1)).Nodup := h.imp fun x => Nat.ne_of_lt x
    exact List.Pairwise.map _ (fun a b hab e => hab (kN_inj e)) nd
theorem valD_next (s : State) (i : Int) : valD (kvD s) (.inl i) = (nextD s (.int i)).map fun t : Nat => .int (t : Int) := by
  unfold kvD nextD valD
  rw [List.find?_map, Option.map_map, Option.map_map]
  have : ((fun kv : Key × D => decide (kv.1 = .inl i)) ∘ fun q : Nat × Nat => ((kN q.1, .int (q.2 : Int)) : Key × D)) = fun p : Nat × Nat => decide ((p.1 : Int) = i) := by
    funext p
    show decide (kN p.1 = .inl i) = _
    have : (kN p.1 = .inl i) ↔ ((p.1 : Int) = i) := ⟨fun z => Sum.inl.inj z, fun z => by rw [← z]⟩
    simp only [this]
  rw [this]
  rfl
theorem next_mem {s : State} {d : D} {t : Nat} (h : nextD s d = some t) : ∃ m : Nat, d = .int (m : Int) ∧ (m, t) ∈ s := by
  cases d with
  | int i =>
    obtain ⟨p, hp, rfl⟩ := Option.map_eq_some_iff.mp h
    have := List.find?_some hp
    exact ⟨p.1, by rw [of_decide_eq_true this], List.mem_of_find?_eq_some hp⟩
  | _ => cases h
theorem rowSts_len {b : Book} : ∀ {ds : List D} {st k : Nat}, rowBad b st k ds = none → (rowSts b st ds).length = ds.length
  | [], _, _, _ => rfl
  | d :: r, st, k, h => by
    unfold rowBad at h
    unfold rowSts
    cases e : nextD (mvs b st) d with
    | none => rw [e] at h; cases h
    | some t =>
      rw [e] at h
      show (t :: rowSts b t r).length = _
      rw [List.length_cons, List.length_cons, rowSts_len h]
/-! ### rows of numbers -/
def natsD (l : List Nat) : List D := l.map fun n : Nat => .int (n : Int)
def walkB (b : Book) (st : Nat) : List Nat → Option Nat
  | [] => some st
  | m :: r => (nextD (mvs b st) (.int (m : Int))).bind fun t => walkB b t r
theorem walkB_app {b : Book} : ∀ {r q : List Nat} {st : Nat}, walkB b st (r ++ q) = (walkB b st r).bind fun t => walkB b t q
  | [], q, st => rfl
  | m :: r, q, st => by
    show (nextD (mvs b st) (.int (m : Int))).bind _ = Option.bind (Option.bind _ _) _
    cases nextD (mvs b st) (.int (m : Int)) with
    | none => rfl
    | some t => exact walkB_app
theorem walkB_bad {b : Book} {x : List D} : ∀ {r : List Nat} {st t k : Nat}, walkB b st r = some t → rowBad b st k (natsD r ++ x) = rowBad b t (k + r.length) x
  | [], st, t, k, h => by cases h; rfl
  | m :: r, st, t, k, h => by
    have h : (nextD (mvs b st) (.int (m : Int))).bind (fun t => walkB b t r) = some t := h
    obtain ⟨u, hu, h⟩ := Option.bind_eq_some_iff.mp h
    show rowBad b st k (.int (m : Int) :: (natsD r ++ x)) = _
    rw [rowBad, hu]
    show rowBad b u (k + 1) (natsD r ++ x) = _
    rw [walkB_bad h, List.length_cons]
    congr 1
    omega
theorem walkB_ok {b : Book} {r : List Nat} {st t k : Nat} (h : walkB b st r = some t) : rowBad b st k (natsD r) = none := by
  have := walkB_bad (x := []) (k := k) h
  rw [List.append_nil] at this
  rw [this]
  rfl
theorem next_of {s : State} (h : (s.map (·.1)).Pairwise (· < ·)) {m t : Nat} (hm : (m, t) ∈ s) : nextD s (.int (m : Int)) = some t := by
  show Option.map _ _ = _
  induction s with
  | nil => cases hm
  | cons p r ih =>
    rw [List.map_cons, List.pairwise_cons] at h
    rw [List.find?_cons]
    rcases List.mem_cons.mp hm with rfl | hm
    · simp
    · have := h.1 m (List.mem_map.mpr ⟨_, hm, rfl⟩)
      have ne : decide ((p.1 : Int) = (m : Int)) = false := decide_eq_false (by omega)
      rw [ne]
      exact ih h.2 hm
end Nv
set_option Elab.async false
set_option linter.all false
set_option maxRecDepth 100000
/-! layings by their data -/
namespace Nv
open PySem PySem.Spec PyProof.Rows L2
abbrev Lot := List Int
/-- a message's place and lot; a place: its state, its messages' -/
abbrev Stp := Nat × Lot
abbrev Plc := Nat × List Stp
def lotD (l : Lot) : D := .tuple (l.map PyData.int)
def stpD (m : Stp) : D := .tuple [.int (m.1 : Int), lotD m.2]
def plcD (p : Plc) : D := .tuple [.int (p.1 : Int), .tuple (p.2.map stpD)]
def layD (w : Nat) (ps : List Plc) : D := .tuple [.int (w : Int), .tuple (ps.map plcD)]
def LotOk (w : Nat) (l : Lot) : Prop := l.length = w ∧ ∀ n ∈ l, 0 ≤ n
structure LayOk (b : Book) (w : Nat) (ps : List Plc) : Prop where
  w6 : w ≤ 6
  n1 : 1 ≤ ps.length
  n2 : ps.length ≤ 2000
  st : ∀ p ∈ ps, p.1 < b.length
  s0 : ∀ p, ps[0]? = some p → p.1 = 0
  len : ∀ p ∈ ps, p.2.length = (mvs b p.1).length
  to : ∀ p ∈ ps, ∀ (i : Nat) (m : Stp) (q : Nat × Nat), p.2[i]? = some m → (mvs b p.1)[i]? = some q → ∃ r, ps[m.1]? = some r ∧ r.1 = q.2
  lot : ∀ p ∈ ps, ∀ m ∈ p.2, LotOk w m.2
/-- a place's moves -/
def mvP (b : Book) (p : Plc) : State := ((mvs b p.1).zip p.2).map fun q => (q.1.1, q.2.1)
/-- the laying's places as a book -/
def mvL (b : Book) (ps : List Plc) : Book := ps.map (mvP b)
theorem mvL_len {b : Book} {ps : List Plc} : (mvL b ps).length = ps.length := by simp [mvL]
theorem mvL_at {b : Book} {ps : List Plc} {k : Nat} {p : Plc} (h : ps[k]? = some p) : mvs (mvL b ps) k = mvP b p := mvs_of (by unfold mvL; rw [List.getElem?_map, h]; rfl)
theorem mvP_get {b : Book} {p : Plc} {i : Nat} {x : Nat × Nat} (h : (mvP b p)[i]? = some x) : ∃ q m, (mvs b p.1)[i]? = some q ∧ p.2[i]? = some m ∧ x = (q.1, m.1) := by
  unfold mvP at h
  rw [List.getElem?_map] at h
  obtain ⟨y, hy, rfl⟩ := Option.map_eq_some_iff.mp h
  obtain ⟨h1, h2⟩ := List.getElem?_zip_eq_some.mp hy
  exact ⟨y.1, y.2, h1, h2, rfl⟩
theorem LayOk.mvlt {b : Book} {w : Nat} {ps : List Plc} (ok : LayOk b w ps) : ∀ s, ∀ x ∈ mvs (mvL b ps) s, x.2 < (mvL b ps).length := fun s x hx => by
  by_cases hs : s < ps.length
  · obtain ⟨p, hp⟩ := (⟨_, List.getElem?_eq_getElem hs⟩ : ∃ p, ps[s]? = some p)
    rw [mvL_at hp] at hx
    obtain ⟨i, hi⟩ := List.mem_iff_getElem?.mp hx
    obtain ⟨q, m, h1, h2, rfl⟩ := mvP_get hi
    obtain ⟨r, hr, _⟩ := ok.to p (List.mem_of_getElem? hp) i m q h2 h1
    rw [mvL_len]
    exact (List.getElem?_eq_some_iff.mp hr).1
  · rw [mvs_out (by rw [mvL_len]; omega)] at hx
    cases hx
theorem LayOk.plen {b : Book} {w : Nat} {ps : List Plc} (ok : LayOk b w ps) {p : Plc} (hp : p ∈ ps) : (mvP b p).length = p.2.length := by
  unfold mvP
  rw [List.length_map, List.length_zip, ok.len p hp]
  omega
/-! ### along a laying -/
/-- where a message leads from a place, with what lot -/
def nextL (b : Book) (p : Plc) : D → Option Stp
  | .int i => (((mvs b p.1).zip p.2).find? fun q => decide ((q.1.1 : Int) = i)).map (·.2)
  | _ => none
def walkL (b : Book) (ps : List Plc) (k : Nat) : List D → List Stp
  | [] => []
  | d :: r => match ps[k]? with
    | some p => (match nextL b p d with
      | some m => m :: walkL b ps m.1 r
      | none => [])
    | none => []
theorem find_zip {α β : Type} {f : α → Bool} : ∀ {s : List α} {l : List β}, l.length = s.length → (∀ q, (s.zip l).find? (fun q => f q.1) = some q → s.find? f = some q.1 ∧ ∃ i : Nat, s[i]? = some q.1 ∧ l[i]? = some q.2) ∧ (s.find? f = none ↔ (s.zip l).find? (fun q => f q.1) = none)
  | [], l, h => ⟨fun q z => by simp at z, by simp⟩
  | a :: s, [], h => by simp at h
  | a :: s, c :: l, h => by
    have ih := find_zip (f := f) (s := s) (l := l) (by simpa using h)
    rw [List.zip_cons_cons, List.find?_cons, List.find?_cons]
    cases ha : f a with
    | true =>
      refine ⟨fun q z => ?_, by simp⟩
      simp only at z
      cases z
      exact ⟨rfl, 0, rfl, rfl⟩
    | false =>
      refine ⟨fun q z => ?_, by simpa using ih.2⟩
      obtain ⟨h1, i, h2, h3⟩ := ih.1 q (by simpa using z)
      exact ⟨by simpa using h1, i + 1, by simpa using h2, by simpa using h3⟩
theorem LayOk.next {b : Book} {w : Nat} {ps : List Plc} (ok : LayOk b w ps) {p : Plc} (hp : p ∈ ps) {d : D} : (∀ m, nextL b p d = some m → (∃ r, ps[m.1]? = some r ∧ nextD (mvs b p.1) d = some r.1) ∧ m ∈ p.2) ∧ (nextL b p d = none ↔ nextD (mvs b p.1) d = none) := by
  cases d with
  | int i =>
    have fz := find_zip (f := fun x : Nat × Nat => decide ((x.1 : Int) = i)) (ok.len p hp)
    refine ⟨fun m h => ?_, ?_⟩
    · obtain ⟨q, hq, rfl⟩ := Option.map_eq_some_iff.mp h
      obtain ⟨h1, j, h2, h3⟩ := fz.1 q hq
      obtain ⟨r, hr, er⟩ := ok.to p hp j q.2 q.1 h3 h2
      refine ⟨⟨r, hr, ?_⟩, List.mem_of_getElem? h3⟩
      show Option.map _ _ = _
      rw [h1, er]
      rfl
    · show Option.map _ _ = none ↔ Option.map _ _ = none
      rw [Option.map_eq_none_iff, Option.map_eq_none_iff, fz.2]
  | _ => exact ⟨fun m h => (nomatch h), fun _ => rfl, fun _ => rfl⟩
theorem next_mvP {b : Book} {p : Plc} (d : D) : nextD (mvP b p) d = (nextL b p d).map (·.1) := by
  cases d with
  | int i =>
    show Option.map _ (List.find? _ (List.map _ _)) = Option.map _ (Option.map _ _)
    rw [List.find?_map, Option.map_map, Option.map_map]
    rfl
  | _ => rfl
/-- the dict of a place's lots -/
def ltK (b : Book) (p : Plc) : List (Key × D) := ((mvs b p.1).zip p.2).map fun q => (kN q.1.1, lotD q.2.2)
theorem valD_lot {b : Book} {p : Plc} (i : Int) : valD (ltK b p) (.inl i) = (nextL b p (.int i)).map fun m => lotD m.2 := by
  unfold ltK nextL valD
  rw [List.find?_map, Option.map_map, Option.map_map]
  have : ((fun kv : Key × D => decide (kv.1 = .inl i)) ∘ fun q : (Nat × Nat) × Stp => ((kN q.1.1, lotD q.2.2) : Key × D)) = fun q : (Nat × Nat) × Stp => decide ((q.1.1 : Int) = i) := by
    funext q
    show decide (kN q.1.1 = .inl i) = _
    have : (kN q.1.1 = .inl i) ↔ ((q.1.1 : Int) = i) := ⟨fun z => Sum.inl.inj z, fun z => by rw [← z]⟩
    simp only [this]
  rw [this]
  rfl
/-- a right row goes along the laying -/
theorem LayOk.walk {b : Book} {w : Nat} {ps : List Plc} (ok : LayOk b w ps) : ∀ {ds : List D} {k : Nat} {p : Plc} {i : Nat}, ps[k]? = some p → rowBad b p.1 i ds = none → (walkL b ps k ds).length = ds.length ∧ ∀ m ∈ walkL b ps k ds, LotOk w m.2 ∧ m.1 < ps.length
  | [], _, _, _, _, _ => ⟨rfl, fun _ h => nomatch h⟩
  | d :: r, k, p, i, hp, h => by
    have pm := List.mem_of_getElem? hp
    obtain ⟨n1, n2⟩ := ok.next pm (d := d)
    unfold rowBad at h
    have e : walkL b ps k (d :: r) = match nextL b p d with | some m => m :: walkL b ps m.1 r | none => [] := by
      show (match ps[k]? with | some p => _ | none => _) = _
      rw [hp]
    cases hn : nextL b p d with
    | none => rw [n2.mp hn] at h; cases h
    | some m =>
      obtain ⟨⟨q, hq, en⟩, mm⟩ := n1 m hn
      rw [en] at h
      rw [hn] at e
      obtain ⟨i1, i2⟩ := ok.walk hq h
      rw [e]
      refine ⟨by show (m :: walkL b ps m.1 r).length = _; rw [List.length_cons, List.length_cons, i1], fun x hx => ?_⟩
      rcases List.mem_cons.mp hx with rfl | hx
      · exact ⟨ok.lot p pm x mm, (List.getElem?_eq_some_iff.mp hq).1⟩
      · exact i2 x hx
def addL (l m : Lot) : Lot := (l.zip m).map fun q => q.1 + q.2
def sumL (w : Nat) (ls : List Lot) : Lot := ls.foldl addL (List.replicate w 0)
theorem addL_len {l m : Lot} {w : Nat} (h : l.length = w) (k : m.length = w) : (addL l m).length = w := by simp [addL, h, k]
theorem LayOk.keys {b : Book} {w : Nat} {ps : List Plc} (fb : FormB b) (ok : LayOk b w ps) {p : Plc} (hp : p ∈ ps) : (((mvs b p.1).zip p.2).map fun q => q.1.1).Nodup := by
  have e : ((mvs b p.1).zip p.2).map (fun q => q.1.1) = (mvs b p.1).map (·.1) := by
    have : ((mvs b p.1).zip p.2).map (fun q => q.1.1) = (((mvs b p.1).zip p.2).map Prod.fst).map (·.1) := by rw [List.map_map]; rfl
    rw [this, List.map_fst_zip]
    rw [ok.len p hp]
    exact Nat.le_refl _
  rw [e]
  exact (fb.ok (ok.st p hp)).rise.imp fun x => Nat.ne_of_lt x
theorem LayOk.mkeys {b : Book} {w : Nat} {ps : List Plc} (fb : FormB b) (ok : LayOk b w ps) {p : Plc} (hp : p ∈ ps) : mergeD [] (kvD (mvP b p)) = kvD (mvP b p) := by
  rw [mergeD_new]
  · rfl
  · have : (kvD (mvP b p)).map (·.1) = (((mvs b p.1).zip p.2).map fun q => q.1.1).map kN := by unfold kvD mvP; rw [List.map_map, List.map_map, List.map_map]; rfl
    rw [List.map_nil, List.nil_append, this]
    exact List.Pairwise.map _ (fun a b hab e => hab (kN_inj e)) (ok.keys fb hp)
/-- one step along -/
theorem LayOk.step {b : Book} {w : Nat} {ps : List Plc} (ok : LayOk b w ps) {k i : Nat} {p : Plc} {x : D} {r : List D} (hp : ps[k]? = some p) (h : rowBad b p.1 i (x :: r) = none) : ∃ (m : Stp) (q : Plc) (n : Nat), x = .int (n : Int) ∧ nextL b p x = some m ∧ ps[m.1]? = some q ∧ rowBad b q.1 (i + 1) r = none ∧ walkL b ps k (x :: r) = m :: walkL b ps m.1 r := by
  have pm := List.mem_of_getElem? hp
  obtain ⟨n1, n2⟩ := ok.next pm (d := x)
  have e : walkL b ps k (x :: r) = match nextL b p x with | some m => m :: walkL b ps m.1 r | none => [] := by
    show (match ps[k]? with | some p => _ | none => _) = _
    rw [hp]
  unfold rowBad at h
  cases hn : nextL b p x with
  | none => rw [n2.mp hn] at h; cases h
  | some m =>
    obtain ⟨⟨q, hq, en⟩, mm⟩ := n1 m hn
    rw [en] at h
    rw [hn] at e
    obtain ⟨n, rfl, _⟩ := next_mem en
    exact ⟨m, q, n, rfl, rfl, hq, h, e⟩
/-! ### what is seen, what is nought -/
def plAt (ps : List Plc) (k : Nat) : Plc := ps.getD k (0, [])
theorem plAt_of {ps : List Plc} {k : Nat} {p : Plc} (h : ps[k]? = some p) : plAt ps k = p := by
  unfold plAt
  rw [List.getD_eq_getElem?_getD, h]
  rfl
def seenP (ps : List Plc) (F : List Nat) : List Plc := F.map fun k => ((plAt ps k).1, (plAt ps k).2.map fun m => (F.idxOf m.1, m.2))
def nzL (l : Lot) : Bool := l.any fun n => n != 0
/-- the messages without pulses at a place -/
def cand (b : Book) (ps : List Plc) (k : Nat) : List (Nat × Nat) := ((mvs b (plAt ps k).1).zip (plAt ps k).2).filterMap fun q => if nzL q.2.2 = true then none else some (k, q.1.1)
def pairO : Option (Nat × Nat) → D
  | none => .none
  | some q => .tuple [.int (q.1 : Int), .int (q.2 : Int)]
def noughtD (b : Book) (ps : List Plc) (F : List Nat) : D := pairO (F.flatMap (cand b ps)).head?
end Nv
set_option Elab.async false
set_option linter.all false
set_option maxRecDepth 100000
/-! along layings, as a law goes -/
namespace Nv
open PySem PySem.Spec PyProof.Rows L2
theorem get_snoc {α : Type} {l : List α} {x y : α} {k : Nat} (h : (l ++ [x])[k]? = some y) : l[k]? = some y ∨ (k = l.length ∧ y = x) := by
  rcases (show k < l.length ∨ ¬ k < l.length by omega) with g | g
  · rw [List.getElem?_append_left g] at h
    exact .inl h
  · rw [List.getElem?_append_right (by omega)] at h
    have k0 : k - l.length = 0 := by
      have := (List.getElem?_eq_some_iff.mp h).1
      simp at this
      omega
    rw [k0] at h
    cases h
    exact .inr ⟨by omega, rfl⟩
theorem zip_idx {i : Int} : ∀ {s : State} {l : List Stp} {m : Stp}, l.length = s.length → ((s.zip l).find? fun q => decide ((q.1.1 : Int) = i)).map (·.2) = some m → i ∈ s.map (fun q => (q.1 : Int)) ∧ l[(s.map fun q => (q.1 : Int)).idxOf i]? = some m
  | [], l, m, h, e => by simp at e
  | a :: s, [], m, h, e => by simp at h
  | a :: s, c :: l, m, h, e => by
    rw [List.zip_cons_cons, List.find?_cons] at e
    rw [List.map_cons, List.idxOf_cons]
    by_cases z : (a.1 : Int) = i
    · have hd : decide ((a.1 : Int) = i) = true := decide_eq_true z
      rw [hd] at e
      cases e
      have hb : ((a.1 : Int) == i) = true := by simp [z]
      rw [hb]
      exact ⟨by simp [z], rfl⟩
    · rw [decide_eq_false z] at e
      have hb : ((a.1 : Int) == i) = false := by simp [z]
      rw [hb]
      obtain ⟨h1, h2⟩ := zip_idx (s := s) (l := l) (by simpa using h) e
      exact ⟨List.mem_cons_of_mem _ h1, by simpa using h2⟩
/-- where a row ends -/
def endL (b : Book) (ps : List Plc) (k : Nat) (ds : List D) : Nat := (k :: (walkL b ps k ds).map (·.1)).getLast (by simp)
theorem endL_at {b : Book} {ps : List Plc} {k c : Nat} {ds : List D} {n : Nat} (hn : (walkL b ps k ds).length = n) (h : (k :: (walkL b ps k ds).map (·.1))[n]? = some c) : endL b ps k ds = c := by
  unfold endL
  rw [List.getLast_eq_getElem]
  obtain ⟨h1, h2⟩ := List.getElem?_eq_some_iff.mp h
  rw [← h2]
  congr 1
  simp [hn]
theorem endL_cons {b : Book} {ps : List Plc} {k : Nat} {d : D} {ds : List D} {m : Stp} (h : walkL b ps k (d :: ds) = m :: walkL b ps m.1 ds) : endL b ps k (d :: ds) = endL b ps m.1 ds := by
  unfold endL
  simp only [h]
  rfl
theorem walkL_snoc {b : Book} {w : Nat} {ps : List Plc} (ok : LayOk b w ps) {n : Nat} : ∀ {ds : List D} {k i : Nat} {p q : Plc} {m : Stp}, ps[k]? = some p → rowBad b p.1 i ds = none → ps[endL b ps k ds]? = some q → nextL b q (.int (n : Int)) = some m → rowBad b p.1 i (ds ++ [.int (n : Int)]) = none ∧ walkL b ps k (ds ++ [.int (n : Int)]) = walkL b ps k ds ++ [m]
  | [], k, i, p, q, m, hp, hb, hq, hm => by
    have hq : ps[k]? = some q := hq
    rw [hp] at hq
    cases hq
    obtain ⟨⟨r, hr, en⟩, _⟩ := (ok.next (List.mem_of_getElem? hp) (d := .int (n : Int))).1 m hm
    refine ⟨?_, ?_⟩
    · show rowBad b p.1 i [.int (n : Int)] = none
      rw [rowBad, en]
      rfl
    · show (match ps[k]? with | some p => _ | none => _) = [m]
      rw [hp]
      show (match nextL b p (.int (n : Int)) with | some m => m :: walkL b ps m.1 [] | none => []) = [m]
      rw [hm]
      rfl
  | d :: ds, k, i, p, q, m, hp, hb, hq, hm => by
    obtain ⟨m1, p1, n1, rfl, hn1, hp1, hb1, hw⟩ := ok.step hp hb
    rw [endL_cons hw] at hq
    obtain ⟨h1, h2⟩ := walkL_snoc ok hp1 hb1 hq hm
    have e1 := ((ok.next (List.mem_of_getElem? hp) (d := .int (n1 : Int))).1 m1 hn1).1
    obtain ⟨r, hr, en⟩ := e1
    rw [hp1] at hr
    cases hr
    refine ⟨?_, ?_⟩
    · show rowBad b p.1 i (.int (n1 : Int) :: (ds ++ _)) = none
      rw [rowBad, en]
      exact h1
    · show walkL b ps k (.int (n1 : Int) :: (ds ++ [.int (n : Int)])) = _
      have : walkL b ps k (.int (n1 : Int) :: (ds ++ [.int (n : Int)])) = m1 :: walkL b ps m1.1 (ds ++ [.int (n : Int)]) := by
        show (match ps[k]? with | some p => _ | none => _) = _
        rw [hp]
        show (match nextL b p (.int (n1 : Int)) with | some m => m :: walkL b ps m.1 _ | none => []) = _
        rw [hn1]
      rw [this, h2, hw]
      rfl
theorem endL_snoc {b : Book} {ps : List Plc} {k : Nat} {ds es : List D} {m : Stp} (h : walkL b ps k es = walkL b ps k ds ++ [m]) : endL b ps k es = m.1 := by
  unfold endL
  simp only [h, List.map_append]
  exact List.getLast_concat (l := k :: (walkL b ps k ds).map (·.1))
/-- a row of the laying's places -/
structure Along (b : Book) (ps : List Plc) (q : Nat × Row) : Prop where
  ok : rowBad b 0 0 (natsD q.2) = none
  to : endL b ps 0 (natsD q.2) = q.1
theorem next_mvP_mem {b : Book} {w : Nat} {ps : List Plc} (fb : FormB b) (ok : LayOk b w ps) {p : Plc} (pm : p ∈ ps) {x : Nat × Nat} (hx : x ∈ mvP b p) : ∃ m, nextL b p (.int (x.1 : Int)) = some m ∧ m.1 = x.2 := by
  have h1 : nextD (mvP b p) (.int (x.1 : Int)) = some x.2 := by
    have e : (mvP b p).map (·.1) = (mvs b p.1).map (·.1) := by
      unfold mvP
      rw [List.map_map]
      have : ((mvs b p.1).zip p.2).map (fun q => q.1.1) = (((mvs b p.1).zip p.2).map Prod.fst).map (·.1) := by rw [List.map_map]; rfl
      show ((mvs b p.1).zip p.2).map (fun q => q.1.1) = _
      rw [this, List.map_fst_zip]
      rw [ok.len p pm]
      exact Nat.le_refl _
    exact next_of (by rw [e]; exact (fb.ok (ok.st p pm)).rise) hx
  rw [next_mvP] at h1
  obtain ⟨m, hm, e⟩ := Option.map_eq_some_iff.mp h1
  exact ⟨m, hm, e⟩
theorem Along.snoc {b : Book} {w : Nat} {ps : List Plc} (fb : FormB b) (ok : LayOk b w ps) {q : Nat × Row} {p : Plc} (h : Along b ps q) (hp : ps[q.1]? = some p) {x : Nat × Nat} (hx : x ∈ mvP b p) : Along b ps (x.2, q.2 ++ [x.1]) := by
  obtain ⟨m, hm, e⟩ := next_mvP_mem fb ok (List.mem_of_getElem? hp) hx
  obtain ⟨p0, hp0⟩ : ∃ p0, ps[0]? = some p0 := ⟨_, List.getElem?_eq_getElem ok.n1⟩
  have z0 := ok.s0 p0 hp0
  have hb : rowBad b p0.1 0 (natsD q.2) = none := by rw [z0]; exact h.ok
  obtain ⟨h1, h2⟩ := walkL_snoc ok hp0 hb (by rw [h.to]; exact hp) hm
  have en : natsD (q.2 ++ [x.1]) = natsD q.2 ++ [.int (x.1 : Int)] := by unfold natsD; rw [List.map_append]; rfl
  refine ⟨?_, ?_⟩
  · show rowBad b 0 0 (natsD (q.2 ++ [x.1])) = none
    rw [en]
    rw [z0] at h1
    exact h1
  · show endL b ps 0 (natsD (q.2 ++ [x.1])) = x.2
    rw [en, endL_snoc h2, e]
theorem addR_all {P : Nat × Row → Prop} {r : Row} : ∀ {ms : State} {L : List (Nat × Row)}, (∀ q ∈ L, P q) → (∀ x ∈ ms, P (x.2, r ++ [x.1])) → ∀ q ∈ addR L r ms, P q
  | [], _, h, _ => h
  | p :: ms, L, h, hm => by
    show ∀ q ∈ addR (if p.2 ∈ L.map (·.1) then L else L ++ [(p.2, r ++ [p.1])]) r ms, P q
    refine addR_all ?_ fun x hx => hm x (List.mem_cons_of_mem _ hx)
    split
    · exact h
    · intro q hq
      rcases List.mem_append.mp hq with hq | hq
      · exact h q hq
      · rw [List.mem_singleton.mp hq]
        exact hm p (List.mem_cons_self ..)
theorem stR_along {b : Book} {w : Nat} {ps : List Plc} (fb : FormB b) (ok : LayOk b w ps) : ∀ i, ∀ q ∈ stR (mvL b ps) 0 i, Along b ps q ∧ q.1 < ps.length
  | 0, q, hq => by
    rw [List.mem_singleton.mp hq]
    exact ⟨⟨rfl, rfl⟩, ok.n1⟩
  | i + 1, q, hq => by
    have ih := stR_along fb ok i
    cases h : (stR (mvL b ps) 0 i)[i]? with
    | none =>
      rw [stR_rest (List.getElem?_eq_none_iff.mp h) 1] at hq
      exact ih q hq
    | some x =>
      rw [stR_step h] at hq
      obtain ⟨hx, hl⟩ := ih x (List.mem_of_getElem? h)
      obtain ⟨p, hp⟩ := (⟨_, List.getElem?_eq_getElem hl⟩ : ∃ p, ps[x.1]? = some p)
      refine addR_all (P := fun q => Along b ps q ∧ q.1 < ps.length) ih (fun y hy => ?_) q hq
      have lt := ok.mvlt x.1 y hy
      rw [mvL_len] at lt
      rw [mvL_at hp] at hy
      exact ⟨hx.snoc fb ok hp hy, lt⟩
/-! ### lots made nought -/
structure NoP (w : Nat) (p q : Plc) : Prop where
  st : p.1 = q.1
  len : p.2.length = q.2.length
  at_ : ∀ (i : Nat) (m : Stp), p.2[i]? = some m → ∃ x, q.2[i]? = some x ∧ m.1 = x.1 ∧ (m.2 = x.2 ∨ m.2 = List.replicate w 0)
theorem LayOk.no {b : Book} {w : Nat} {ps qs : List Plc} (ok : LayOk b w qs) (hl : ps.length = qs.length) (h : ∀ (k : Nat) (p : Plc), ps[k]? = some p → ∃ q, qs[k]? = some q ∧ NoP w p q) : LayOk b w ps := by
  have mem : ∀ p ∈ ps, ∃ q ∈ qs, NoP w p q := fun p hp => by
    obtain ⟨k, hk⟩ := List.mem_iff_getElem?.mp hp
    obtain ⟨q, hq, n⟩ := h k p hk
    exact ⟨q, List.mem_of_getElem? hq, n⟩
  refine ⟨ok.w6, by rw [hl]; exact ok.n1, by rw [hl]; exact ok.n2, fun p hp => ?_, fun p hp => ?_, fun p hp => ?_, fun p hp i m y hm hy => ?_, fun p hp m hm => ?_⟩
  · obtain ⟨q, hq, n⟩ := mem p hp
    rw [n.st]
    exact ok.st q hq
  · obtain ⟨q, hq, n⟩ := h 0 p hp
    rw [n.st]
    exact ok.s0 q hq
  · obtain ⟨q, hq, n⟩ := mem p hp
    rw [n.st, n.len]
    exact ok.len q hq
  · obtain ⟨q, hq, n⟩ := mem p hp
    obtain ⟨x, hx, e, _⟩ := n.at_ i m hm
    rw [n.st] at hy
    obtain ⟨r, hr, er⟩ := ok.to q hq i x y hx hy
    rw [e]
    have := (List.getElem?_eq_some_iff.mp hr).1
    obtain ⟨r', hr'⟩ := (⟨_, List.getElem?_eq_getElem (by omega : x.1 < ps.length)⟩ : ∃ r', ps[x.1]? = some r')
    obtain ⟨r2, h2, n2⟩ := h x.1 r' hr'
    rw [hr] at h2
    cases h2
    exact ⟨r', hr', by rw [n2.st, er]⟩
  · obtain ⟨q, hq, n⟩ := mem p hp
    obtain ⟨i, hi⟩ := List.mem_iff_getElem?.mp hm
    obtain ⟨x, hx, _, e⟩ := n.at_ i m hi
    rcases e with e | e
    · rw [e]; exact ok.lot q hq x (List.mem_of_getElem? hx)
    · rw [e]
      exact ⟨List.length_replicate .., fun z hz => by rw [(List.mem_replicate.mp hz).2]; exact Int.le_refl _⟩
/-! ### what stands at a place's message -/
theorem find_at : ∀ {s : State} {l : List Stp} {j : Nat} {x : Nat × Nat} {m : Stp}, (s.map (·.1)).Pairwise (· < ·) → s[j]? = some x → l[j]? = some m → (s.zip l).find? (fun q => decide ((q.1.1 : Int) = (x.1 : Int))) = some (x, m)
  | [], _, _, _, _, _, hx, _ => by simp at hx
  | _ :: _, [], _, _, _, _, _, hm => by simp at hm
  | a :: s, c :: l, 0, x, m, _, hx, hm => by
    cases hx
    cases hm
    rw [List.zip_cons_cons, List.find?_cons, decide_eq_true rfl]
  | a :: s, c :: l, j + 1, x, m, h, hx, hm => by
    rw [List.map_cons, List.pairwise_cons] at h
    have hx : s[j]? = some x := by simpa using hx
    have hm : l[j]? = some m := by simpa using hm
    have := h.1 x.1 (List.mem_map.mpr ⟨x, List.mem_of_getElem? hx, rfl⟩)
    rw [List.zip_cons_cons, List.find?_cons, decide_eq_false (by show ¬ ((a.1 : Int) = (x.1 : Int)); omega)]
    exact find_at h.2 hx hm
theorem nextL_at {b : Book} {w : Nat} {ps : List Plc} (fb : FormB b) (ok : LayOk b w ps) {p : Plc} (pm : p ∈ ps) {j : Nat} {x : Nat × Nat} {m : Stp} (hx : (mvs b p.1)[j]? = some x) (hm : p.2[j]? = some m) : nextL b p (.int (x.1 : Int)) = some m := by
  show Option.map _ _ = _
  rw [find_at (fb.ok (ok.st p pm)).rise hx hm]
  rfl
theorem sum0 : ∀ {l : Lot}, (∀ n ∈ l, 0 ≤ n) → 0 ≤ l.sum ∧ decide (l.sum = 0) = !nzL l
  | [], _ => ⟨Int.le_refl _, rfl⟩
  | n :: l, h => by
    obtain ⟨h1, h2⟩ := sum0 (l := l) fun x hx => h x (List.mem_cons_of_mem _ hx)
    have h0 := h n (List.mem_cons_self ..)
    rw [List.sum_cons]
    refine ⟨by omega, ?_⟩
    have e : nzL (n :: l) = (n != 0 || nzL l) := by simp [nzL]
    rw [e]
    by_cases z : n = 0
    · subst z
      rw [Int.zero_add, h2]
      rfl
    · have hb : (n != 0) = true := by simp [z]
      rw [hb, decide_eq_false (by omega)]
      rfl
end Nv
set_option maxHeartbeats 2000000
set_option pp.maxSteps 2500
set_option Elab.async false
set_option linter.all false
set_option maxRecDepth 100000
namespace Nv
open PySem PySem.Spec PyProof.Rows L2
section
variable {P : Program} {w : World} {K : PySem.W.Frag} {mg : Str → Option Value} {base : Heap}
def clT (T : Tx K mg) : Str → Addr → Prop := fun nm C => (nm = "BadBook" ∧ C = T.x_BadBook.C) ∨ (nm = "Stray" ∧ C = T.x_Stray.C) ∨ (nm = "BadRow" ∧ C = T.x_BadRow.C) ∨ (nm = "BadLaying" ∧ C = T.x_BadLaying.C)
theorem cl_BadBook (T : Tx K mg) : clT T "BadBook" T.x_BadBook.C := by simp [clT]
theorem cl_Stray (T : Tx K mg) : clT T "Stray" T.x_Stray.C := by simp [clT]
theorem cl_BadRow (T : Tx K mg) : clT T "BadRow" T.x_BadRow.C := by simp [clT]
theorem cl_BadLaying (T : Tx K mg) : clT T "BadLaying" T.x_BadLaying.C := by simp [clT]
/-! ### things of any form -/
/-- any data, as an argument -/
def Vl.any : Vl → Option D
  | .p d => some d
  | .o d => some d
  | .k (.L ds) => some (.list ds)
  | _ => none
theorem any_cases {a : Vl} {d : D} (h : a.any = some d) : a = .p d ∨ a = .o d ∨ ∃ ds, d = .list ds ∧ a = .k (.L ds) := by
  unfold Vl.any at h
  split at h <;> first | (cases h; simp) | cases h
def wholeP : D → Bool
  | .int _ => true
  | _ => false
def sv_whole : S1 := fun a Po _ => ∃ d, a.any = some d ∧ Po (.p (.bool (wholeP d)))
theorem sc_whole : FnScope ["thing"] ["thing"] (defScope s_whole) := ⟨rfl, rfl, rfl, by decide +kernel, rfl, by decide +kernel, by decide +kernel⟩
theorem okV_whole (T : Tx K mg) : FnOk P w K mg base CX0 1 T.whole.f T.whole.fd ["thing"] (spC K (sv1 sv_whole)) := by
  refine T.whole.F.ok sc_whole (fun vs H Q E h => spC_len sv1_len h) (fun cdv A outer s H vs Q E hr h => ?_)
  refine ⟨_, (show PSs _ _ (liftS ⟨K, clT T, E⟩ _) from (vs_one (vs_ret (ve_and (ve_isi kit_int (pe_callB (call_isiK' K) (by rfl) T.n_isinstance (by decide +kernel) (pa_cons (ve_var (pv 0)) (pa_cons (pe_bltn (v := .ty "int") (by rfl) T.n_int (by decide +kernel) rfl) pa_nil)))) (ve_one (ve_not (ve_isi kit_bool (pe_callB (call_isiK' K) (by rfl) T.n_isinstance (by decide +kernel) (pa_cons (ve_var (pv 0)) (pa_cons (pe_bltn (v := .ty "bool") (by rfl) T.n_bool (by decide +kernel) rfl) pa_nil)))))))))), enterC1 h ?_⟩
  rintro a Po ⟨d, ha, h⟩
  rcases any_cases ha with rfl | rfl | ⟨ds, rfl, rfl⟩
  · cases d <;> exact h
  · cases d <;> exact h
  · exact h
theorem if_le {a b : Prop} [Decidable a] [Decidable b] {P : Bool → Prop} (h : P (decide (a ∧ b))) : if decide a = true then P (decide b) else P false := by
  by_cases ha : a
  · rw [decide_eq_true ha]
    have : decide (a ∧ b) = decide b := by simp [ha]
    rw [this] at h
    exact iteT h
  · rw [decide_eq_false ha]
    have : decide (a ∧ b) = false := by simp [ha]
    rw [this] at h
    exact iteF h
def sv_whole_within : S3 := fun a b c Po _ => ∃ d lo hi, a.any = some d ∧ b = .p (.int lo) ∧ c = .p (.int hi) ∧ Po (.p (.bool (inD d lo hi)))
theorem sc_whole_within : FnScope ["thing", "low", "high"] ["thing", "low", "high"] (defScope s_whole_within) := ⟨rfl, rfl, rfl, by decide +kernel, rfl, by decide +kernel, by decide +kernel⟩
theorem okV_whole_within (T : Tx K mg) : FnOk P w K mg base CX0 2 T.whole_within.f T.whole_within.fd ["thing", "low", "high"] (spC K (sv3 sv_whole_within)) := by
  refine T.whole_within.F.ok sc_whole_within (fun vs H Q E h => spC_len sv3_len h) (fun cdv A outer s H vs Q E hr h => ?_)
  refine ⟨_, (show PSs _ _ (liftS ⟨K, clT T, E⟩ _) from (vs_one (vs_ret (ve_and (ve_call (pe_call (okV_whole T) (hr.mono (by decide)) (by rfl) T.whole.g T.whole.F.kp T.whole.b .nil pass0 (va_cons (ve_var (pv 0)) va_nil)) (fun _ => .nil)) (ve_one (ve_chain op_le c_le op_le c_le (ve_var (pv 1)) (ve_var (pv 0)) (ve_var (pv 2)))))))), enterC3 h ?_⟩
  rintro a _ _ Po ⟨d, lo, hi, ha, rfl, rfl, h⟩
  rcases any_cases ha with rfl | rfl | ⟨ds, rfl, rfl⟩
  · refine ⟨d, rfl, ?_⟩
    cases d with
    | int i => exact if_le (P := fun b => Po (.p (.bool b))) h
    | _ => exact h
  · refine ⟨d, rfl, ?_⟩
    cases d with
    | int i => exact if_le (P := fun b => Po (.p (.bool b))) h
    | _ => exact h
  · exact ⟨_, rfl, h⟩
def sv_tuple_within : S3 := fun a b c Po _ => ∃ d lo hi, a.any = some d ∧ b = .p (.int lo) ∧ c = .p (.int hi) ∧ Po (.p (.bool (tupD d lo hi)))
theorem sc_tuple_within : FnScope ["thing", "low", "high"] ["thing", "low", "high"] (defScope s_tuple_within) := ⟨rfl, rfl, rfl, by decide +kernel, rfl, by decide +kernel, by decide +kernel⟩
theorem okV_tuple_within (T : Tx K mg) : FnOk P w K mg base CX0 1 T.tuple_within.f T.tuple_within.fd ["thing", "low", "high"] (spC K (sv3 sv_tuple_within)) := by
  refine T.tuple_within.F.ok sc_tuple_within (fun vs H Q E h => spC_len sv3_len h) (fun cdv A outer s H vs Q E hr h => ?_)
  refine ⟨_, (show PSs _ _ (liftS ⟨K, clT T, E⟩ _) from (vs_one (vs_ret (ve_and (ve_isi kit_tup (pe_callB (call_isiK' K) (by rfl) T.n_isinstance (by decide +kernel) (pa_cons (ve_var (pv 0)) (pa_cons (pe_bltn (v := .ty "tuple") (by rfl) T.n_tuple (by decide +kernel) rfl) pa_nil)))) (ve_one (ve_chain op_le c_le op_le c_le (ve_var (pv 1)) (ve_cb (pe_callB (call_len_seqK K) (by rfl) T.n_len PySem.boot_len (va_cons (ve_var (pv 0)) va_nil)) c_len) (ve_var (pv 2)))))))), enterC3 h ?_⟩
  rintro a _ _ Po ⟨d, lo, hi, ha, rfl, rfl, h⟩
  rcases any_cases ha with rfl | rfl | ⟨ds, rfl, rfl⟩
  · cases d with
    | tuple ds => exact if_le (P := fun b => Po (.p (.bool b))) h
    | _ => exact h
  · cases d with
    | tuple ds => exact if_le (P := fun b => Po (.p (.bool b))) h
    | _ => exact h
  · exact h
end
end Nv
set_option maxHeartbeats 2000000
set_option pp.maxSteps 2500
set_option Elab.async false
set_option linter.all false
set_option maxRecDepth 100000
namespace Nv
open PySem PySem.Spec PyProof.Rows L2
section
variable {P : Program} {w : World} {K : PySem.W.Frag} {mg : Str → Option Value} {base : Heap}
/-! ### the form of a book -/
theorem drop_at {α : Type} {l : List α} {i : Nat} {x : α} (h : l[i]? = some x) : l.drop i = x :: l.drop (i + 1) := by
  obtain ⟨hi, e⟩ := List.getElem?_eq_some_iff.mp h
  rw [List.drop_eq_getElem_cons hi, e]
theorem one_at {α : Type} {f : α → Vl} {l : List α} {i : Nat} {it : Iv} (h : ((l.map f).map Iv.one)[i]? = some it) : ∃ x, l[i]? = some x ∧ it = .one (f x) := by
  rw [List.map_map, List.getElem?_map] at h
  cases e : l[i]? with
  | none => rw [e] at h; cases h
  | some x => rw [e] at h; cases h; exact ⟨x, rfl, rfl⟩
theorem ones_len {α : Type} {f : α → Vl} {l : List α} : ((l.map f).map Iv.one).length = l.length := by simp
theorem tup2_of {x : D} (h : tupD x 2 2 = true) : ∃ y z, x = .tuple [y, z] := by
  cases x with
  | tuple ds =>
    have h : decide ((2 : Int) ≤ (ds.length : Int) ∧ (ds.length : Int) ≤ 2) = true := h
    have := of_decide_eq_true h
    match ds, this with
    | [y, z], _ => exact ⟨y, z, rfl⟩
    | [], w => simp at w
    | [_], w => simp at w
    | _ :: _ :: _ :: _, w => simp at w; omega
  | _ => exact absurd h (by intro z; cases z)
theorem inD_int {d : D} {lo hi : Int} (h : inD d lo hi = true) : ∃ i, d = .int i ∧ lo ≤ i ∧ i ≤ hi := by
  cases d with
  | int i => exact ⟨i, rfl, of_decide_eq_true h⟩
  | _ => cases h
theorem pairD_2 {last n : Int} {y z : D} : pairD last n (.tuple [y, z]) = if inD y (last + 1) 99 = true ∧ inD z 0 (n - 1) = true then (match y with | .int m => some m | _ => none) else none := by
  cases y with
  | int m =>
    cases z with
    | int t =>
      show (if last + 1 ≤ m ∧ m ≤ 99 ∧ 0 ≤ t ∧ t ≤ n - 1 then some m else none) = _
      by_cases h : last + 1 ≤ m ∧ m ≤ 99 ∧ 0 ≤ t ∧ t ≤ n - 1
      · rw [if_pos h, if_pos ⟨decide_eq_true ⟨h.1, h.2.1⟩, decide_eq_true h.2.2⟩]
      · rw [if_neg h, if_neg fun w => h ⟨(of_decide_eq_true w.1).1, (of_decide_eq_true w.1).2, of_decide_eq_true w.2⟩]
    | _ => rw [if_neg fun w => by cases w.2] <;> rfl
  | _ => rw [if_neg fun w => by cases w.1] <;> rfl
theorem pairD_not {last n : Int} {x : D} (h : tupD x 2 2 = false) : pairD last n x = none := by
  unfold pairD
  split
  · cases h
  · rfl
def sv_has_state_form : S2 := fun a b Po _ => ∃ d n, a.any = some d ∧ b = .p (.int n) ∧ Po (.p (.bool (stateD n d)))
theorem sc_has_state_form : FnScope ["thing", "many", "last", "pair", "message", "to"] ["thing", "many"] (defScope s_has_state_form) := ⟨rfl, rfl, rfl, by decide +kernel, rfl, by decide +kernel, by decide +kernel⟩
theorem okV_has_state_form (T : Tx K mg) : FnOk P w K mg base CX0 3 T.has_state_form.f T.has_state_form.fd ["thing", "many"] (spC K (sv2 sv_has_state_form)) := by
  refine T.has_state_form.F.ok sc_has_state_form (fun vs H Q E h => spC_len sv2_len h) (fun cdv A outer s H vs Q E hr h => ?_)
  refine ⟨_, (show PSs _ _ (liftS ⟨K, clT T, E⟩ _) from (vs_cons (vs_if (vt_not (vt_val (ve_call (pe_call (okV_tuple_within T) (hr.mono (by decide)) (by rfl) T.tuple_within.g T.tuple_within.F.kp T.tuple_within.b .nil pass0 (va_cons (ve_var (pv 0)) (va_cons ve_int (va_cons (ve_const (pe_glob (v := .int 5) (by rfl) T.c_MOST_MESSAGES.choose_spec ⟨_, rfl⟩)) va_nil)))) (fun _ => .nil))))
        (vs_one (vs_ret ve_bl))
        vs_nil)
      (vs_cons (vs_set (i := 2) sc_has_state_form.nd rfl (.inl rfl) (ve_un un_neg c_neg ve_int))
      (vs_cons (vs_for PassesOwn.never rfl (vi_seq (pi_anyK K (ve_var (pv 0)))) (vg_name (pg_name (i := 3) sc_has_state_form.nd rfl (.inl rfl)))
        (vs_cons (vs_if (vt_not (vt_val (ve_call (pe_call (okV_tuple_within T) (hr.mono (by decide)) (by rfl) T.tuple_within.g T.tuple_within.F.kp T.tuple_within.b .nil pass0 (va_cons (ve_var (pv 3)) (va_cons ve_int (va_cons ve_int va_nil)))) (fun _ => .nil))))
          (vs_one (vs_ret ve_bl))
          vs_nil)
        (vs_cons (vs_asg (ps_asg (ve_var (pv 3)) (vg_tup (pg_tupK (n := 2) K rfl (vgs_cons (vg_name (pg_name (i := 4) sc_has_state_form.nd rfl (.inl rfl))) (vgs_cons (vg_name (pg_name (i := 5) sc_has_state_form.nd rfl (.inl rfl))) vgs_nil))))))
        (vs_cons (vs_if (PW.pt (vw_or (vt_not (vt_val (ve_call (pe_call (okV_whole_within T) (hr.mono (by decide)) (by rfl) T.whole_within.g T.whole_within.F.kp T.whole_within.b .nil pass0 (va_cons (ve_var (pv 4)) (va_cons (ve_op op_add c_add (ve_var (pv 2)) ve_int) (va_cons (ve_const (pe_glob (v := .int 99) (by rfl) T.c_GREATEST_MESSAGE.choose_spec ⟨_, rfl⟩)) va_nil)))) (fun _ => .nil)))) (pw_or1 (vt_not (vt_val (ve_call (pe_call (okV_whole_within T) (hr.mono (by decide)) (by rfl) T.whole_within.g T.whole_within.F.kp T.whole_within.b .nil pass0 (va_cons (ve_var (pv 5)) (va_cons ve_int (va_cons (ve_op op_sub c_sub (ve_var (pv 1)) ve_int) va_nil)))) (fun _ => .nil)))))))
          (vs_one (vs_ret ve_bl))
          vs_nil)
        (vs_one (vs_setS (i := 2) sc_has_state_form.nd rfl (.inl rfl) (ve_var (pv 4))))))))
      (vs_one (vs_ret ve_bl)))))), enterC2 h ?_⟩
  rintro a _ Po ⟨d, n, ha, rfl, h⟩
  rcases any_cases ha with rfl | rfl | ⟨ds, rfl, rfl⟩
  rotate_left 2
  · exact ⟨_, 0, 5, rfl, rfl, rfl, h⟩
  all_goals
    refine ⟨d, 0, 5, rfl, rfl, rfl, ?_⟩
    cases d with
    | tuple ds =>
      by_cases h5 : ds.length ≤ 5
      · have e : tupD (.tuple ds) 0 5 = true := decide_eq_true ⟨by omega, by omega⟩
        have e2 : stateD n (.tuple ds) = pairsD (-1) n ds := by simp [stateD, h5]
        rw [e2] at h
        show if (!tupD (.tuple ds) 0 5) = true then _ else _
        rw [e]
        refine ⟨fun i ρ => ∃ s0 last y3 y4 y5, ρ = [s0, .im (.int n), .im (.int last), y3, y4, y5] ∧ pairsD (-1) n ds = pairsD last n (ds.drop i), ⟨_, -1, _, _, _, rfl, rfl⟩, ?_, ?_⟩
        · rintro i it ρ hit ⟨s0, last, y3, y4, y5, rfl, hp⟩
          obtain ⟨x, hx, rfl⟩ := one_at hit
          rw [drop_at hx, pairs_cons] at hp
          refine ⟨x, 2, 2, rfl, rfl, rfl, ?_⟩
          show if (!tupD x 2 2) = true then _ else _
          cases hx2 : tupD x 2 2 with
          | false =>
            rw [hp, pairD_not hx2] at h
            exact h
          | true =>
            obtain ⟨y, z, rfl⟩ := tup2_of hx2
            rw [pairD_2] at hp
            refine ⟨rfl, y, last + 1, 99, rfl, rfl, rfl, ?_⟩
            show if (!inD y (last + 1) 99) = true then _ else _
            cases hy : inD y (last + 1) 99 with
            | false =>
              rw [hp, hy] at h
              exact h
            | true =>
              refine ⟨z, 0, n - 1, rfl, rfl, rfl, ?_⟩
              show if (!inD z 0 (n - 1)) = true then _ else _
              cases hz : inD z 0 (n - 1) with
              | false =>
                rw [hp, hy, hz] at h
                exact h
              | true =>
                rw [hy, hz] at hp
                obtain ⟨m, rfl, _, _⟩ := inD_int hy
                exact ⟨s0, m, _, _, _, rfl, hp⟩
        · rintro ρ ⟨s0, last, y3, y4, y5, rfl, hp⟩
          rw [ones_len, List.drop_length] at hp
          rw [hp] at h
          exact h
      · have e : tupD (.tuple ds) 0 5 = false := decide_eq_false fun w => h5 (by omega)
        have e2 : stateD n (.tuple ds) = false := by simp [stateD, h5]
        rw [e2] at h
        show if (!tupD (.tuple ds) 0 5) = true then _ else _
        rw [e]
        exact h
    | _ => exact h
/-! ### what the form of a book is, raised -/
theorem sc_init : FnScope ["self", "what"] ["self", "what"] (defScope s_init) := ⟨rfl, rfl, rfl, by decide +kernel, rfl, by decide +kernel, by decide +kernel⟩
theorem ok_init (T : Tx K mg) : FnOk P w K mg base CX0 1 T.init.f T.init.fd ["self", "what"] (sp_init K) := by
  refine T.init.F.ok sc_init (fun vs H Q E h => ?_) (fun cdv A outer s H vs Q E hr h => ?_)
  · obtain ⟨a, C, y, nm, rfl, _⟩ := h; rfl
  · obtain ⟨a, C, y, nm, rfl, ha, o, no, nn, q⟩ := h
    refine ⟨_, (pss_cons (ps_ost (pv 0) (pv 1))
      (pss_one (ps_ost (pv 0) (pe_kind (pv 0))))), ?_⟩
    refine ⟨_, rfl, _, rfl, a, C, rfl, o, no, .inl ⟨ha, fun dx nd ne => ?_⟩⟩
    refine ⟨_, rfl, a, C, dx, _, nm, rfl, upd_same, by rw [upd_ne ne, upd_same], nn, _, rfl, a, C, rfl, o, nn.nk, .inr ⟨dx, _, upd_same, by rw [upd_ne ne, upd_same], by show 1 ≤ 900; decide, ?_⟩⟩
    have e : upd (upd (upd H dx (exd dx [("what", y)])) a (exo a C (some dx))) dx (exd dx [("kind", .str nm), ("what", y)]) = upd (upd H dx (exd dx [("kind", .str nm), ("what", y)])) a (exo a C (some dx)) := by
      funext b
      by_cases h1 : b = dx
      · rw [h1, upd_same, upd_ne ne, upd_same]
      · rw [upd_ne h1]
        by_cases h2 : b = a
        · rw [h2, upd_same, upd_same]
        · rw [upd_ne h2, upd_ne h2, upd_ne h1, upd_ne h1]
    rw [e]
    exact q dx nd ne
def sv_check_form : S1 := fun a Po Ex => ∃ d, a.any = some d ∧ (formErr d = none → Po (.p .none)) ∧ ∀ e, formErr d = some e → Ex "BadBook" (.int e)
theorem rgI_at {lo : Int} {n i : Nat} {it : Iv} (h : (rgI lo n)[i]? = some it) : i < n ∧ it = .one (.p (.int (lo + (i : Int)))) := by
  unfold rgI at h
  rw [List.getElem?_map] at h
  by_cases hi : i < n
  · rw [List.getElem?_range hi] at h
    exact ⟨hi, (Option.some.inj h).symm⟩
  · rw [List.getElem?_eq_none (by simp; omega)] at h
    cases h
theorem rgI_len {lo : Int} {n : Nat} : (rgI lo n).length = n := by simp [rgI]
theorem atI_at {α : Type} {xs : List α} {i : Nat} {x : α} (h : xs[i]? = some x) : atI xs (0 + (i : Int)) = some x := by
  rw [Int.zero_add]
  exact atI_nat h
theorem get_lt {α : Type} {xs : List α} {i : Nat} (h : i < xs.length) : ∃ x, xs[i]? = some x := ⟨_, List.getElem?_eq_getElem h⟩
theorem tup_err {d : D} (h : tupD d 1 8 = false) : formErr d = some (-1) := by
  cases d with
  | tuple ds =>
    have h : decide ((1 : Int) ≤ (ds.length : Int) ∧ (ds.length : Int) ≤ 8) = false := h
    show (if 1 ≤ ds.length ∧ ds.length ≤ 8 then firstBad ds.length ds 0 else some (-1)) = some (-1)
    rw [if_neg]
    intro z
    exact absurd (of_decide_eq_false h) (by simp; omega)
  | _ => rfl
theorem tup_form {ds : List D} (h : tupD (.tuple ds) 1 8 = true) : (1 ≤ ds.length ∧ ds.length ≤ 8) ∧ formErr (.tuple ds) = firstBad ds.length ds 0 := by
  have h : decide ((1 : Int) ≤ (ds.length : Int) ∧ (ds.length : Int) ≤ 8) = true := h
  have h2 := of_decide_eq_true h
  refine ⟨by omega, ?_⟩
  show (if 1 ≤ ds.length ∧ ds.length ≤ 8 then firstBad ds.length ds 0 else some (-1)) = _
  rw [if_pos (by omega)]
theorem sc_check_form : FnScope ["thing", "state"] ["thing"] (defScope s_check_form) := ⟨rfl, rfl, rfl, by decide +kernel, rfl, by decide +kernel, by decide +kernel⟩
theorem okX_check_form (T : Tx K mg) : FnOk P w K mg base (L2.CX P w) 4 T.check_form.f T.check_form.fd ["thing"] (spV K (clT T) (sv1 sv_check_form)) := by
  refine T.check_form.F.okX sc_check_form (fun vs H Q E h => spV_len sv1_len h) (fun cdv A outer s H vs Q E hr h => ?_)
  refine ⟨_, (show PSs _ _ (liftS ⟨K, clT T, E⟩ _) from (vs_cons (vs_if (vt_not (vt_val (ve_call (pe_call (okV_tuple_within T) (hr.mono (by decide)) (by rfl) T.tuple_within.g T.tuple_within.F.kp T.tuple_within.b .nil pass0 (va_cons (ve_var (pv 0)) (va_cons ve_int (va_cons (ve_const (pe_glob (v := .int 8) (by rfl) T.c_MOST_STATES.choose_spec ⟨_, rfl⟩)) va_nil)))) (fun _ => .nil))))
        (vs_one (vs_raise rfl (takes_of rfl rfl rfl rfl) (pmk_X T.x_BadBook T.init.ti (ok_init T) (hr.mono (by decide)) T.init.b (by rfl) (ve_un un_neg c_neg ve_int)) (cl_BadBook T)))
        vs_nil)
      (vs_one (vs_for (passes_of rfl) rfl (vi_range1 (pi_range1 (by rfl) T.n_range (va_cons (ve_cb (pe_callB (call_len_seqK K) (by rfl) T.n_len PySem.boot_len (va_cons (ve_var (pv 0)) va_nil)) c_len) va_nil))) (vg_name (pg_name (i := 1) sc_check_form.nd rfl (.inl rfl)))
        (vs_one (vs_if (vt_not (vt_val (ve_call (pe_call (okV_has_state_form T) (hr.mono (by decide)) (by rfl) T.has_state_form.g T.has_state_form.F.kp T.has_state_form.b .nil pass0 (va_cons (ve_ix (ix_anyK K) c_ix (ve_var (pv 0)) (ve_var (pv 1)) (fun _ _ => rfl)) (va_cons (ve_cb (pe_callB (call_len_seqK K) (by rfl) T.n_len PySem.boot_len (va_cons (ve_var (pv 0)) va_nil)) c_len) va_nil))) (fun _ => .nil))))
          (vs_one (vs_raise rfl (takes_of rfl rfl rfl rfl) (pmk_X T.x_BadBook T.init.ti (ok_init T) (hr.mono (by decide)) T.init.b (by rfl) (ve_var (pv 1))) (cl_BadBook T)))
          vs_nil)))))), enter1 h ?_⟩
  rintro a Po Ex ⟨d, ha, h, hx⟩
  rcases any_cases ha with rfl | rfl | ⟨ds, rfl, rfl⟩
  rotate_left 2
  · exact ⟨_, 1, 8, rfl, rfl, rfl, hx _ rfl⟩
  · refine ⟨d, 1, 8, rfl, rfl, rfl, ?_⟩
    show if (!tupD d 1 8) = true then _ else _
    cases ht : tupD d 1 8 with
    | false => exact hx _ (tup_err ht)
    | true =>
      cases d with
      | tuple ds =>
        obtain ⟨hl, ef⟩ := tup_form ht
        rw [ef] at h hx
        refine ⟨⟨by omega, by omega⟩, fun i ρ => ∃ y, ρ = [.im (.tuple ds), y] ∧ firstBad ds.length ds 0 = firstBad ds.length (ds.drop i) (i : Nat), ⟨_, rfl, rfl⟩, ?_, ?_⟩
        · rintro i it ρ hit ⟨y, rfl, e⟩
          obtain ⟨hi, rfl⟩ := rgI_at hit
          rw [Int.toNat_natCast] at hi
          obtain ⟨x, hx2⟩ := get_lt hi
          rw [drop_at hx2] at e
          have e : firstBad ds.length ds 0 = if stateD ds.length x = true then firstBad ds.length (ds.drop (i + 1)) (i + 1) else some (i : Int) := e
          refine ⟨x, atI_at hx2, x, ds.length, rfl, rfl, ?_⟩
          show if (!stateD ds.length x) = true then _ else _
          cases hs : stateD ds.length x with
          | false =>
            rw [hs] at e
            refine hx _ ?_
            rw [Int.zero_add]
            exact e
          | true =>
            rw [hs] at e
            exact ⟨_, rfl, e⟩
        · rintro ρ ⟨y, rfl, e⟩
          rw [rgI_len, Int.toNat_natCast, List.drop_length] at e
          exact h e
      | _ => cases ht
  · refine ⟨d, 1, 8, rfl, rfl, rfl, ?_⟩
    show if (!tupD d 1 8) = true then _ else _
    cases ht : tupD d 1 8 with
    | false => exact hx _ (tup_err ht)
    | true =>
      cases d with
      | tuple ds =>
        obtain ⟨hl, ef⟩ := tup_form ht
        rw [ef] at h hx
        refine ⟨⟨by omega, by omega⟩, fun i ρ => ∃ y, ρ = [.od (.tuple ds), y] ∧ firstBad ds.length ds 0 = firstBad ds.length (ds.drop i) (i : Nat), ⟨_, rfl, rfl⟩, ?_, ?_⟩
        · rintro i it ρ hit ⟨y, rfl, e⟩
          obtain ⟨hi, rfl⟩ := rgI_at hit
          rw [Int.toNat_natCast] at hi
          obtain ⟨x, hx2⟩ := get_lt hi
          rw [drop_at hx2] at e
          have e : firstBad ds.length ds 0 = if stateD ds.length x = true then firstBad ds.length (ds.drop (i + 1)) (i + 1) else some (i : Int) := e
          refine ⟨x, atI_at hx2, x, ds.length, rfl, rfl, ?_⟩
          show if (!stateD ds.length x) = true then _ else _
          cases hs : stateD ds.length x with
          | false =>
            rw [hs] at e
            refine hx _ ?_
            rw [Int.zero_add]
            exact e
          | true =>
            rw [hs] at e
            exact ⟨_, rfl, e⟩
        · rintro ρ ⟨y, rfl, e⟩
          rw [rgI_len, Int.toNat_natCast, List.drop_length] at e
          exact h e
      | _ => cases ht
theorem okV_check_form (T : Tx K mg) : FnOk P w K mg base CX0 4 T.check_form.f T.check_form.fd ["thing"] (spC K (sv1 sv_check_form)) := FnOk.calmV (okX_check_form T)
/-! ### the least rows, by meeting -/
/-- a list or a tuple of such data, as an argument -/
def Vl.sq : Vl → Option (List D)
  | .p (.tuple ds) => some ds
  | .o (.tuple ds) => some ds
  | .k (.L ds) => some ds
  | _ => none
theorem sq_cases {a : Vl} {ds : List D} (h : a.sq = some ds) : a = .p (.tuple ds) ∨ a = .o (.tuple ds) ∨ a = .k (.L ds) := by
  unfold Vl.sq at h
  split at h <;> first | (cases h; simp; done) | cases h
def sv_first_rows : S2 := fun a c Po _ => ∃ (b : Book) (st : Nat), a.sq = some (b.map stD) ∧ c = .p (.int (st : Int)) ∧ st < b.length ∧ (∀ s, ∀ p ∈ mvs b s, p.2 < b.length) ∧ b.length ≤ 5000 ∧ Po (.f (.DK (frK (ordR b st))))
theorem sz5000 {n : Nat} (h : n ≤ 10000) : n < sizeLine := by rw [sizeLine_eq]; omega
theorem sc_first_rows : FnScope ["states", "start", "rows", "order", "done", "state", "message", "to"] ["states", "start"] (defScope s_first_rows) := ⟨rfl, rfl, rfl, by decide +kernel, rfl, by decide +kernel, by decide +kernel⟩
theorem okV_first_rows (T : Tx K mg) : FnOk P w K mg base CX0 1 T.first_rows.f T.first_rows.fd ["states", "start"] (spC K (sv2 sv_first_rows)) := by
  refine T.first_rows.F.ok sc_first_rows (fun vs H Q E h => spC_len sv2_len h) (fun cdv A outer s H vs Q E hr h => ?_)
  refine ⟨_, (show PSs _ _ (liftS ⟨K, clT T, E⟩ _) from (vs_cons (vs_set (i := 2) sc_first_rows.nd rfl (.inl rfl) (ve_disp1 (pe_disp (pps_cons (ve_var (pv 1)) (ve_tup va_nil) pps_nil) (by rfl) (by rfl) (fun z => by cases z) (by decide))))
      (vs_cons (vs_set (i := 3) sc_first_rows.nd rfl (.inl rfl) (ve_lst (va_cons (ve_var (pv 1)) va_nil)))
      (vs_cons (vs_set (i := 4) sc_first_rows.nd rfl (.inl rfl) ve_int)
      (vs_cons (vs_while PassesOwn.never (vt_cmp op_lt c_lt (ve_var (pv 4)) (ve_cb (pe_callB (call_len_seqK K) (by rfl) T.n_len PySem.boot_len (va_cons (ve_var (pv 3)) va_nil)) c_len) (nomark _))
        (vs_cons (vs_setS (i := 5) sc_first_rows.nd rfl (.inl rfl) (ve_ix (ix_anyK K) c_ix (ve_var (pv 3)) (ve_var (pv 4)) (fun _ _ => rfl)))
        (vs_cons (vs_aug (ps_aug (i := 4) sc_first_rows.nd rfl (.inl rfl) ve_int ip_add))
        (vs_one (vs_for PassesOwn.never rfl (vi_seq (pi_anyK K (ve_ix (ix_anyK K) c_ix (ve_var (pv 0)) (ve_var (pv 5)) (fun _ _ => rfl)))) (vg_tup (pg_tupK (n := 2) K rfl (vgs_cons (vg_name (pg_name (i := 6) sc_first_rows.nd rfl (.inl rfl))) (vgs_cons (vg_name (pg_name (i := 7) sc_first_rows.nd rfl (.inl rfl))) vgs_nil))))
          (vs_one (vs_if (vt_dnotin (hu_of hr) (ve_var (pv 7)) (ve_var (pv 2)))
            (vs_cons (vs_dput (ps_dput (hu_of hr) (pv 2) (ve_var (pv 7)) (ve_op (op_catAZK K) c_catT (ve_dget (hu_of hr) (ve_var (pv 2)) (ve_var (pv 5)) (fun _ _ => rfl)) (ve_tup (va_cons (ve_var (pv 6)) va_nil))) rfl))
            (vs_one (vs_append (ps_expr (pe_bmK K PySem.F.plainAttrs_list PySem.F.slot_list_append PySem.F.type_list_append mt_append (pv 3) (pa_cons (ve_var (pv 7)) pa_nil))))))
            vs_nil)))))))
      (vs_one (vs_retV (pv 2)))))))), enterC2 h ?_⟩
  rintro a _ Po ⟨b, st, ha, rfl, hst, hb, h5, h⟩
  have ok := stR_ok hst hb
  rcases sq_cases ha with rfl | rfl | rfl
  · refine ⟨kN st, rfl, ?_⟩
    refine ⟨fun m ρ => ∃ i y5 y6 y7, m = b.length - i ∧ ρ = [.im (.tuple (b.map stD)), .im (.int (st : Int)), .mu (.DK (frK (stR b st i))), .mu (.L ((stR b st i).map fun q => .int (q.1 : Int))), .im (.int (i : Nat)), y5, y6, y7] ∧ i ≤ (stR b st i).length, ⟨_, 0, _, _, _, rfl, rfl, Nat.zero_le _⟩, ?_⟩
    rintro m ρ ⟨i, y5, y6, y7, rfl, rfl, hi⟩
    show if decide ((i : Int) < (((stR b st i).map fun q => (.int (q.1 : Int) : D)).length : Int)) = true then _ else _
    rw [List.length_map]
    by_cases hlt : i < (stR b st i).length
    · rw [decide_eq_true (by omega)]
      obtain ⟨q, hq⟩ := get_lt hlt
      have hql : q.1 < b.length := (ok i).lt q (List.mem_of_getElem? hq)
      have hl0 := (ok i).len
      refine ⟨.int (q.1 : Int), atI_nat (by rw [List.getElem?_map, hq]; rfl), stD (mvs b q.1), atI_nat (by rw [List.getElem?_map, mvs_lt hql]; rfl), ?_⟩
      refine ⟨fun k ρ => ∃ y6 y7, ρ = [.im (.tuple (b.map stD)), .im (.int (st : Int)), .mu (.DK (frK (addR (stR b st i) q.2 ((mvs b q.1).take k)))), .mu (.L ((addR (stR b st i) q.2 ((mvs b q.1).take k)).map fun q => .int (q.1 : Int))), .im (.int ((i + 1 : Nat) : Int)), .im (.int (q.1 : Int)), y6, y7], ⟨_, _, rfl⟩, ?_, ?_⟩
      · rintro k it ρ hit ⟨y6, y7, rfl⟩
        obtain ⟨x, hx, rfl⟩ := one_at hit
        rw [List.getElem?_map] at hx
        obtain ⟨p, hp, rfl⟩ := Option.map_eq_some_iff.mp hx
        have step := addR_take (r := q.2) hp (rfl : addR (stR b st i) q.2 ((mvs b q.1).take k) = _)
        have okk : KeysOk b.length (addR (stR b st i) q.2 ((mvs b q.1).take k)) := (ok i).addR fun x hx => hb q.1 x (List.mem_of_mem_take hx)
        have pre : q ∈ addR (stR b st i) q.2 ((mvs b q.1).take k) := (addR_pre _ _ _).subset (List.mem_of_getElem? hq)
        refine ⟨rfl, kN p.2, rfl, ?_⟩
        show if (!(valD (frK (addR (stR b st i) q.2 ((mvs b q.1).take k))) (kN p.2)).isSome) = true then _ else _
        rw [frK_isSome]
        generalize addR (stR b st i) q.2 ((mvs b q.1).take k) = L at *
        have hL := okk.len
        by_cases hin : p.2 ∈ L.map (·.1)
        · rw [decide_eq_true hin]
          rw [if_pos hin] at step
          exact ⟨_, _, by rw [step]; rfl⟩
        · rw [decide_eq_false hin]
          rw [if_neg hin] at step
          refine ⟨kN q.1, rwD q.2, rfl, frK_val okk.nd pre, ?_⟩
          have hr := stR_rows i q (List.mem_of_getElem? hq)
          refine ⟨?_, kN p.2, rfl, ?_, ?_⟩
          · rw [List.length_map]
            show q.2.length + 1 ≤ sizeLine
            exact Nat.le_of_lt (sz5000 (by omega))
          · rw [frK_len]
            exact sz5000 (by omega)
          · exact ⟨by rw [List.length_map]; exact sz5000 (by omega), _, _, by rw [rwD_snoc, frK_put (q := (p.2, q.2 ++ [p.1])) hin, step, List.map_append]; rfl⟩
      · rintro ρ ⟨y6, y7, rfl⟩
        rw [ones_len, List.length_map, List.take_length, ← stR_step hq]
        have h1 := (ok (i + 1)).len
        have h2 : (stR b st i) <+: stR b st (i + 1) := by rw [stR_step hq]; exact addR_pre _ _ _
        have h3 := h2.length_le
        have h4 := (ok i).len
        exact ⟨b.length - (i + 1), by omega, i + 1, _, _, _, rfl, rfl, by omega⟩
    · rw [decide_eq_false (by omega)]
      have e : ordR b st = stR b st i := stR_end (by omega) (by have := (ok i).len; omega)
      rw [← e]
      exact h
  · refine ⟨kN st, rfl, ?_⟩
    refine ⟨fun m ρ => ∃ i y5 y6 y7, m = b.length - i ∧ ρ = [.od (.tuple (b.map stD)), .im (.int (st : Int)), .mu (.DK (frK (stR b st i))), .mu (.L ((stR b st i).map fun q => .int (q.1 : Int))), .im (.int (i : Nat)), y5, y6, y7] ∧ i ≤ (stR b st i).length, ⟨_, 0, _, _, _, rfl, rfl, Nat.zero_le _⟩, ?_⟩
    rintro m ρ ⟨i, y5, y6, y7, rfl, rfl, hi⟩
    show if decide ((i : Int) < (((stR b st i).map fun q => (.int (q.1 : Int) : D)).length : Int)) = true then _ else _
    rw [List.length_map]
    by_cases hlt : i < (stR b st i).length
    · rw [decide_eq_true (by omega)]
      obtain ⟨q, hq⟩ := get_lt hlt
      have hql : q.1 < b.length := (ok i).lt q (List.mem_of_getElem? hq)
      have hl0 := (ok i).len
      refine ⟨.int (q.1 : Int), atI_nat (by rw [List.getElem?_map, hq]; rfl), stD (mvs b q.1), atI_nat (by rw [List.getElem?_map, mvs_lt hql]; rfl), ?_⟩
      refine ⟨fun k ρ => ∃ y6 y7, ρ = [.od (.tuple (b.map stD)), .im (.int (st : Int)), .mu (.DK (frK (addR (stR b st i) q.2 ((mvs b q.1).take k)))), .mu (.L ((addR (stR b st i) q.2 ((mvs b q.1).take k)).map fun q => .int (q.1 : Int))), .im (.int ((i + 1 : Nat) : Int)), .im (.int (q.1 : Int)), y6, y7], ⟨_, _, rfl⟩, ?_, ?_⟩
      · rintro k it ρ hit ⟨y6, y7, rfl⟩
        obtain ⟨x, hx, rfl⟩ := one_at hit
        rw [List.getElem?_map] at hx
        obtain ⟨p, hp, rfl⟩ := Option.map_eq_some_iff.mp hx
        have step := addR_take (r := q.2) hp (rfl : addR (stR b st i) q.2 ((mvs b q.1).take k) = _)
        have okk : KeysOk b.length (addR (stR b st i) q.2 ((mvs b q.1).take k)) := (ok i).addR fun x hx => hb q.1 x (List.mem_of_mem_take hx)
        have pre : q ∈ addR (stR b st i) q.2 ((mvs b q.1).take k) := (addR_pre _ _ _).subset (List.mem_of_getElem? hq)
        refine ⟨rfl, kN p.2, rfl, ?_⟩
        show if (!(valD (frK (addR (stR b st i) q.2 ((mvs b q.1).take k))) (kN p.2)).isSome) = true then _ else _
        rw [frK_isSome]
        generalize addR (stR b st i) q.2 ((mvs b q.1).take k) = L at *
        have hL := okk.len
        by_cases hin : p.2 ∈ L.map (·.1)
        · rw [decide_eq_true hin]
          rw [if_pos hin] at step
          exact ⟨_, _, by rw [step]; rfl⟩
        · rw [decide_eq_false hin]
          rw [if_neg hin] at step
          refine ⟨kN q.1, rwD q.2, rfl, frK_val okk.nd pre, ?_⟩
          have hr := stR_rows i q (List.mem_of_getElem? hq)
          refine ⟨?_, kN p.2, rfl, ?_, ?_⟩
          · rw [List.length_map]
            show q.2.length + 1 ≤ sizeLine
            exact Nat.le_of_lt (sz5000 (by omega))
          · rw [frK_len]
            exact sz5000 (by omega)
          · exact ⟨by rw [List.length_map]; exact sz5000 (by omega), _, _, by rw [rwD_snoc, frK_put (q := (p.2, q.2 ++ [p.1])) hin, step, List.map_append]; rfl⟩
      · rintro ρ ⟨y6, y7, rfl⟩
        rw [ones_len, List.length_map, List.take_length, ← stR_step hq]
        have h1 := (ok (i + 1)).len
        have h2 : (stR b st i) <+: stR b st (i + 1) := by rw [stR_step hq]; exact addR_pre _ _ _
        have h3 := h2.length_le
        have h4 := (ok i).len
        exact ⟨b.length - (i + 1), by omega, i + 1, _, _, _, rfl, rfl, by omega⟩
    · rw [decide_eq_false (by omega)]
      have e : ordR b st = stR b st i := stR_end (by omega) (by have := (ok i).len; omega)
      rw [← e]
      exact h
  · refine ⟨kN st, rfl, ?_⟩
    refine ⟨fun m ρ => ∃ i y5 y6 y7, m = b.length - i ∧ ρ = [.rd (.L (b.map stD)), .im (.int (st : Int)), .mu (.DK (frK (stR b st i))), .mu (.L ((stR b st i).map fun q => .int (q.1 : Int))), .im (.int (i : Nat)), y5, y6, y7] ∧ i ≤ (stR b st i).length, ⟨_, 0, _, _, _, rfl, rfl, Nat.zero_le _⟩, ?_⟩
    rintro m ρ ⟨i, y5, y6, y7, rfl, rfl, hi⟩
    show if decide ((i : Int) < (((stR b st i).map fun q => (.int (q.1 : Int) : D)).length : Int)) = true then _ else _
    rw [List.length_map]
    by_cases hlt : i < (stR b st i).length
    · rw [decide_eq_true (by omega)]
      obtain ⟨q, hq⟩ := get_lt hlt
      have hql : q.1 < b.length := (ok i).lt q (List.mem_of_getElem? hq)
      have hl0 := (ok i).len
      refine ⟨.int (q.1 : Int), atI_nat (by rw [List.getElem?_map, hq]; rfl), stD (mvs b q.1), atI_nat (by rw [List.getElem?_map, mvs_lt hql]; rfl), ?_⟩
      refine ⟨fun k ρ => ∃ y6 y7, ρ = [.rd (.L (b.map stD)), .im (.int (st : Int)), .mu (.DK (frK (addR (stR b st i) q.2 ((mvs b q.1).take k)))), .mu (.L ((addR (stR b st i) q.2 ((mvs b q.1).take k)).map fun q => .int (q.1 : Int))), .im (.int ((i + 1 : Nat) : Int)), .im (.int (q.1 : Int)), y6, y7], ⟨_, _, rfl⟩, ?_, ?_⟩
      · rintro k it ρ hit ⟨y6, y7, rfl⟩
        obtain ⟨x, hx, rfl⟩ := one_at hit
        rw [List.getElem?_map] at hx
        obtain ⟨p, hp, rfl⟩ := Option.map_eq_some_iff.mp hx
        have step := addR_take (r := q.2) hp (rfl : addR (stR b st i) q.2 ((mvs b q.1).take k) = _)
        have okk : KeysOk b.length (addR (stR b st i) q.2 ((mvs b q.1).take k)) := (ok i).addR fun x hx => hb q.1 x (List.mem_of_mem_take hx)
        have pre : q ∈ addR (stR b st i) q.2 ((mvs b q.1).take k) := (addR_pre _ _ _).subset (List.mem_of_getElem? hq)
        refine ⟨rfl, kN p.2, rfl, ?_⟩
        show if (!(valD (frK (addR (stR b st i) q.2 ((mvs b q.1).take k))) (kN p.2)).isSome) = true then _ else _
        rw [frK_isSome]
        generalize addR (stR b st i) q.2 ((mvs b q.1).take k) = L at *
        have hL := okk.len
        by_cases hin : p.2 ∈ L.map (·.1)
        · rw [decide_eq_true hin]
          rw [if_pos hin] at step
          exact ⟨_, _, by rw [step]; rfl⟩
        · rw [decide_eq_false hin]
          rw [if_neg hin] at step
          refine ⟨kN q.1, rwD q.2, rfl, frK_val okk.nd pre, ?_⟩
          have hr := stR_rows i q (List.mem_of_getElem? hq)
          refine ⟨?_, kN p.2, rfl, ?_, ?_⟩
          · rw [List.length_map]
            show q.2.length + 1 ≤ sizeLine
            exact Nat.le_of_lt (sz5000 (by omega))
          · rw [frK_len]
            exact sz5000 (by omega)
          · exact ⟨by rw [List.length_map]; exact sz5000 (by omega), _, _, by rw [rwD_snoc, frK_put (q := (p.2, q.2 ++ [p.1])) hin, step, List.map_append]; rfl⟩
      · rintro ρ ⟨y6, y7, rfl⟩
        rw [ones_len, List.length_map, List.take_length, ← stR_step hq]
        have h1 := (ok (i + 1)).len
        have h2 : (stR b st i) <+: stR b st (i + 1) := by rw [stR_step hq]; exact addR_pre _ _ _
        have h3 := h2.length_le
        have h4 := (ok i).len
        exact ⟨b.length - (i + 1), by omega, i + 1, _, _, _, rfl, rfl, by omega⟩
    · rw [decide_eq_false (by omega)]
      have e : ordR b st = stR b st i := stR_end (by omega) (by have := (ok i).len; omega)
      rw [← e]
      exact h
end
end Nv
set_option maxHeartbeats 2000000
set_option pp.maxSteps 2500
set_option Elab.async false
set_option linter.all false
set_option maxRecDepth 100000
namespace Nv
open PySem PySem.Spec PyProof.Rows L2
section
variable {P : Program} {w : World} {K : PySem.W.Frag} {mg : Str → Option Value} {base : Heap}
/-! ### a book that is right -/
def sv_made_book : S1 := fun a Po Ex => ∃ d, a.any = some d ∧ (∀ e, formErr d = some e → Ex "BadBook" (.int e)) ∧ ∀ b, d = bookD b → FormB b → (∀ s : Nat, s < b.length → s ∉ ordB b → (∀ k, k < s → k ∈ ordB b) → Ex "Stray" (.int (s : Int))) ∧ (OkB b → Po a)
theorem form_mem {b : Book} (fb : FormB b) : ∀ s, ∀ p ∈ mvs b s, p.2 < b.length := fun s p hp => fb.to hp
theorem sc_made_book : FnScope ["thing", "reached", "state"] ["thing"] (defScope s_made_book) := ⟨rfl, rfl, rfl, by decide +kernel, rfl, by decide +kernel, by decide +kernel⟩
theorem okX_made_book (T : Tx K mg) : FnOk P w K mg base (L2.CX P w) 5 T.made_book.f T.made_book.fd ["thing"] (spV K (clT T) (sv1 sv_made_book)) := by
  refine T.made_book.F.okX sc_made_book (fun vs H Q E h => spV_len sv1_len h) (fun cdv A outer s H vs Q E hr h => ?_)
  refine ⟨_, (show PSs _ _ (liftS ⟨K, clT T, E⟩ _) from (vs_cons (vs_expr (ve_callX (pe_call (okX_check_form T) (hr.mono (by decide)) (by rfl) T.check_form.g T.check_form.F.kp T.check_form.b .nil (passes_call (takes_of rfl rfl rfl rfl) (fun _ _ _ _ h => h)) (va_cons (ve_var (pv 0)) va_nil)) (fun _ => .nil)))
      (vs_cons (vs_set (i := 1) sc_made_book.nd rfl (.inl rfl) (ve_call (pe_call (okV_first_rows T) (hr.mono (by decide)) (by rfl) T.first_rows.g T.first_rows.F.kp T.first_rows.bD.choose_spec.2 T.first_rows.bD.choose_spec.1 pass0 (va_cons (ve_var (pv 0)) va_nil)) (fun _ => .cons (.int _) .nil)))
      (vs_cons (vs_for (passes_of rfl) rfl (vi_range1 (pi_range1 (by rfl) T.n_range (va_cons (ve_cb (pe_callB (call_len_seqK K) (by rfl) T.n_len PySem.boot_len (va_cons (ve_var (pv 0)) va_nil)) c_len) va_nil))) (vg_name (pg_name (i := 2) sc_made_book.nd rfl (.inl rfl)))
        (vs_one (vs_if (vt_dnotin (hu_of hr) (ve_var (pv 2)) (ve_var (pv 1)))
          (vs_one (vs_raise rfl (takes_of rfl rfl rfl rfl) (pmk_X T.x_Stray T.init.ti (ok_init T) (hr.mono (by decide)) T.init.b (by rfl) (ve_var (pv 2))) (cl_Stray T)))
          vs_nil)))
      (PSs.nox (vs_one (vs_ret (ve_var (pv 0))))))))), enter1 h ?_⟩
  rintro a Po Ex ⟨d, ha, hx, hk⟩
  rcases any_cases ha with rfl | rfl | ⟨ds, rfl, rfl⟩
  rotate_left 2
  · exact ⟨_, rfl, fun z => (by cases z), hx⟩
  · refine ⟨d, rfl, fun hn => ?_, hx⟩
    obtain ⟨b, rfl, fb⟩ := form_book hn
    obtain ⟨hs, ok⟩ := hk b rfl fb
    refine ⟨b, 0, rfl, rfl, fb.one, form_mem fb, by have := fb.eight; omega, ?_⟩
    refine ⟨⟨by omega, by have := fb.eight; simp; omega⟩, fun i ρ => ∃ y, ρ = [.im (bookD b), .mu (.DK (frK (ordR b 0))), y] ∧ ∀ k, k < i → k ∈ ordB b, ⟨_, rfl, fun k h => by omega⟩, ?_, ?_⟩
    · rintro i it ρ hit ⟨y, rfl, hi⟩
      obtain ⟨hlt, rfl⟩ := rgI_at hit
      rw [Int.toNat_natCast, List.length_map] at hlt
      refine ⟨.inl (0 + (i : Int)), rfl, ?_⟩
      rw [Int.zero_add]
      show if (!(valD (frK (ordR b 0)) (kN i)).isSome) = true then _ else _
      rw [frK_isSome, ordR_keys]
      by_cases hm : i ∈ ordB b
      · rw [decide_eq_true hm]
        exact ⟨_, rfl, fun k hk => by rcases (show k < i ∨ k = i by omega) with z | rfl; exact hi k z; exact hm⟩
      · rw [decide_eq_false hm]
        exact hs i hlt hm hi
    · rintro ρ ⟨y, rfl, h⟩
      rw [rgI_len, Int.toNat_natCast, List.length_map] at h
      exact ok (ok_met fb h)
  · refine ⟨d, rfl, fun hn => ?_, hx⟩
    obtain ⟨b, rfl, fb⟩ := form_book hn
    obtain ⟨hs, ok⟩ := hk b rfl fb
    refine ⟨b, 0, rfl, rfl, fb.one, form_mem fb, by have := fb.eight; omega, ?_⟩
    refine ⟨⟨by omega, by have := fb.eight; simp; omega⟩, fun i ρ => ∃ y, ρ = [.od (bookD b), .mu (.DK (frK (ordR b 0))), y] ∧ ∀ k, k < i → k ∈ ordB b, ⟨_, rfl, fun k h => by omega⟩, ?_, ?_⟩
    · rintro i it ρ hit ⟨y, rfl, hi⟩
      obtain ⟨hlt, rfl⟩ := rgI_at hit
      rw [Int.toNat_natCast, List.length_map] at hlt
      refine ⟨.inl (0 + (i : Int)), rfl, ?_⟩
      rw [Int.zero_add]
      show if (!(valD (frK (ordR b 0)) (kN i)).isSome) = true then _ else _
      rw [frK_isSome, ordR_keys]
      by_cases hm : i ∈ ordB b
      · rw [decide_eq_true hm]
        exact ⟨_, rfl, fun k hk => by rcases (show k < i ∨ k = i by omega) with z | rfl; exact hi k z; exact hm⟩
      · rw [decide_eq_false hm]
        exact hs i hlt hm hi
    · rintro ρ ⟨y, rfl, h⟩
      rw [rgI_len, Int.toNat_natCast, List.length_map] at h
      exact ok (ok_met fb h)
theorem okV_made_book (T : Tx K mg) : FnOk P w K mg base CX0 5 T.made_book.f T.made_book.fd ["thing"] (spC K (sv1 sv_made_book)) := FnOk.calmV (okX_made_book T)
/-! ### the states along a row -/
def sv_states_along : S2 := fun a r Po Ex => ∃ (b : Book) (d : D), a = .p (bookD b) ∧ FormB b ∧ r.any = some d ∧ (∀ e, rowErr b d = some e → Ex "BadRow" (.int e)) ∧ ∀ ds, d = .tuple ds → ds.length ≤ 20000 → rowBad b 0 0 ds = none → Po (.f (.L (natsD (0 :: rowSts b 0 ds))))
theorem FormB.kv {b : Book} (fb : FormB b) {s : Nat} (hs : s < b.length) : mergeD [] (kvD (mvs b s)) = kvD (mvs b s) := kvD_merge (fb.ok hs).rise
theorem row_short {b : Book} {ds : List D} (h : ds.length ≤ 20000) : rowErr b (.tuple ds) = (rowBad b 0 0 ds).map fun n : Nat => (n : Int) := by
  show (if ds.length ≤ 20000 then _ else _) = _
  rw [if_pos h]
theorem row_long {b : Book} {d : D} (h : tupD d 0 20000 = false) : rowErr b d = some (-1) := by
  cases d with
  | tuple ds =>
    have h : decide ((0 : Int) ≤ (ds.length : Int) ∧ (ds.length : Int) ≤ 20000) = false := h
    show (if ds.length ≤ 20000 then _ else _) = _
    rw [if_neg fun z => of_decide_eq_false h ⟨by omega, by omega⟩]
  | _ => rfl
theorem tup_short {d : D} (h : tupD d 0 20000 = true) : ∃ ds, d = .tuple ds ∧ ds.length ≤ 20000 := by
  cases d with
  | tuple ds =>
    have h : decide ((0 : Int) ≤ (ds.length : Int) ∧ (ds.length : Int) ≤ 20000) = true := h
    have := of_decide_eq_true h
    exact ⟨ds, rfl, by omega⟩
  | _ => cases h
theorem next_out {b : Book} (fb : FormB b) {st : Nat} (hst : st < b.length) {m : Int} (h : inD (.int m) 0 99 = false) : nextD (mvs b st) (.int m) = none := by
  cases e : nextD (mvs b st) (.int m) with
  | none => rfl
  | some t =>
    obtain ⟨k, hk, hm⟩ := next_mem e
    have := (fb.ok hst).msg _ hm
    cases hk
    exact absurd (⟨by omega, by omega⟩ : (0 : Int) ≤ (k : Int) ∧ (k : Int) ≤ 99) (of_decide_eq_false h)
theorem take_snoc {α : Type} {l : List α} {i : Nat} {x : α} (h : l[i]? = some x) : l.take (i + 1) = l.take i ++ [x] := by
  rw [List.take_add_one, h]
  rfl
theorem sz5000' {n : Nat} (h : n ≤ 30000) : n < sizeLine := by rw [sizeLine_eq]; omega
theorem sc_states_along : FnScope ["book", "row", "moves", "states", "state", "index", "message"] ["book", "row"] (defScope s_states_along) := ⟨rfl, rfl, rfl, by decide +kernel, rfl, by decide +kernel, by decide +kernel⟩
theorem okX_states_along (T : Tx K mg) : FnOk P w K mg base (L2.CX P w) 4 T.states_along.f T.states_along.fd ["book", "row"] (spV K (clT T) (sv2 sv_states_along)) := by
  refine T.states_along.F.okX sc_states_along (fun vs H Q E h => spV_len sv2_len h) (fun cdv A outer s H vs Q E hr h => ?_)
  refine ⟨_, (show PSs _ _ (liftS ⟨K, clT T, E⟩ _) from (vs_cons (vs_if (vt_not (vt_val (ve_call (pe_call (okV_tuple_within T) (hr.mono (by decide)) (by rfl) T.tuple_within.g T.tuple_within.F.kp T.tuple_within.b .nil pass0 (va_cons (ve_var (pv 1)) (va_cons ve_int (va_cons (ve_const (pe_glob (v := .int 20000) (by rfl) T.c_LONGEST_ROW.choose_spec ⟨_, rfl⟩)) va_nil)))) (fun _ => .nil))))
        (vs_one (vs_raise rfl (takes_of rfl rfl rfl rfl) (pmk_X T.x_BadRow T.init.ti (ok_init T) (hr.mono (by decide)) T.init.b (by rfl) (ve_un un_neg c_neg ve_int)) (cl_BadRow T)))
        vs_nil)
      (vs_cons (vs_setOf (ps_setLc (i := 2) (own := [("state", 4)]) rfl sc_states_along.nd rfl rfl (sw_true rfl rfl rfl (by decide +kernel)) (vi_seq (pi_anyK K (ve_var (pv 0)))) (blkOk_by (own := [("state", 4)]) (N := ["book", "row", "moves", "states", "state", "index", "message"]) (sc := defScope s_states_along) (by decide +kernel)) (fun _ _ _ _ _ => (vg_name (pg_name (i := 4) sc_states_along.nd rfl (.inl rfl)))) (fun _ _ _ _ _ => pts_nil) (fun _ _ _ _ _ => (ve_cb (pe_callTy (call_dictTK K) (by rfl) T.n_dict (by decide +kernel) (va_cons (ve_var (pv 4)) va_nil)) c_dictT))) (lift_lcM (by decide) lift_yes))
      (vs_cons (vs_set (i := 3) sc_states_along.nd rfl (.inl rfl) (ve_lst (va_cons ve_int va_nil)))
      (vs_cons (vs_set (i := 4) sc_states_along.nd rfl (.inl rfl) ve_int)
      (vs_cons (vs_for (passes_of rfl) rfl (vi_range1 (pi_range1 (by rfl) T.n_range (va_cons (ve_cb (pe_callB (call_len_seqK K) (by rfl) T.n_len PySem.boot_len (va_cons (ve_var (pv 1)) va_nil)) c_len) va_nil))) (vg_name (pg_name (i := 5) sc_states_along.nd rfl (.inl rfl)))
        (vs_cons (vs_setS (i := 6) sc_states_along.nd rfl (.inl rfl) (ve_ix (ix_anyK K) c_ix (ve_var (pv 1)) (ve_var (pv 5)) (fun _ _ => rfl)))
        (vs_cons (vs_if (PW.pt (vw_or (vt_not (vt_val (ve_call (pe_call (okV_whole_within T) (hr.mono (by decide)) (by rfl) T.whole_within.g T.whole_within.F.kp T.whole_within.b .nil pass0 (va_cons (ve_var (pv 6)) (va_cons ve_int (va_cons (ve_const (pe_glob (v := .int 99) (by rfl) T.c_GREATEST_MESSAGE.choose_spec ⟨_, rfl⟩)) va_nil)))) (fun _ => .nil)))) (pw_or1 (vt_dnotin (hu_of hr) (ve_var (pv 6)) (ve_ix (ix_anyK K) c_ix (ve_var (pv 2)) (ve_var (pv 4)) (fun _ _ => rfl))))))
          (vs_one (vs_raise rfl (takes_of rfl rfl rfl rfl) (pmk_X T.x_BadRow T.init.ti (ok_init T) (hr.mono (by decide)) T.init.b (by rfl) (ve_var (pv 5))) (cl_BadRow T)))
          vs_nil)
        (PSs.nox (vs_cons (vs_setS (i := 4) sc_states_along.nd rfl (.inl rfl) (ve_dget (hu_of hr) (ve_ix (ix_anyK K) c_ix (ve_var (pv 2)) (ve_var (pv 4)) (fun _ _ => rfl)) (ve_var (pv 6)) (fun _ _ => rfl)))
        (vs_one (vs_append (ps_expr (pe_bmK K PySem.F.plainAttrs_list PySem.F.slot_list_append PySem.F.type_list_append mt_append (pv 3) (pa_cons (ve_var (pv 4)) pa_nil))))))))))
      (PSs.nox (vs_one (vs_retV (pv 3)))))))))), enter2 h ?_⟩
  rintro _ r Po Ex ⟨b, d, rfl, fb, hr, hx, hk⟩
  rcases any_cases hr with rfl | rfl | ⟨ds, rfl, rfl⟩
  rotate_left 2
  · exact ⟨_, 0, 20000, rfl, rfl, rfl, hx _ rfl⟩
  · refine ⟨d, 0, 20000, rfl, rfl, rfl, ?_⟩
    show if (!tupD d 0 20000) = true then _ else _
    cases ht : tupD d 0 20000 with
    | false => exact hx _ (row_long ht)
    | true =>
      obtain ⟨ds, rfl, hl⟩ := tup_short ht
      rw [row_short hl] at hx
      have hk := hk ds rfl hl
      refine ⟨by simp; exact sz5000 (by have := fb.eight; omega), fun i acc => acc = (b.take i).map fun s => M.DK (kvD s), rfl, ?_, ?_⟩
      · rintro i it acc hit rfl
        obtain ⟨x, hx2, rfl⟩ := one_at hit
        rw [List.getElem?_map] at hx2
        obtain ⟨s, hs, rfl⟩ := Option.map_eq_some_iff.mp hx2
        have hlt := (List.getElem?_eq_some_iff.mp hs).1
        refine ⟨kvD s, by rw [← kvD_pr]; rfl, ?_⟩
        show _ = _
        rw [take_snoc hs, List.map_append, ← mvs_of hs, fb.kv hlt]
        rfl
      rintro acc rfl
      rw [ones_len, List.length_map, List.take_length]
      refine ⟨⟨by omega, by omega⟩, fun i ρ => ∃ (st : Nat) (pre : List Nat) (y5 y6 : Sl), ρ = [.im (bookD b), .im (.tuple ds), .mu (.LL (b.map fun s => M.DK (kvD s))), .mu (.L (natsD pre)), .im (.int (st : Int)), y5, y6] ∧ st < b.length ∧ rowBad b 0 0 ds = rowBad b st i (ds.drop i) ∧ 0 :: rowSts b 0 ds = pre ++ rowSts b st (ds.drop i) ∧ pre.length = i + 1, ⟨0, [0], _, _, rfl, fb.one, rfl, rfl, rfl⟩, ?_, ?_⟩
      · rintro i it ρ hit ⟨st, pre, y5, y6, rfl, hst, hb, hs, hpl⟩
        obtain ⟨hlt, rfl⟩ := rgI_at hit
        rw [Int.toNat_natCast] at hlt
        obtain ⟨x, hx2⟩ := get_lt hlt
        rw [drop_at hx2] at hb hs
        refine ⟨x, atI_at hx2, ?_⟩
        rw [Int.zero_add]
        have bad : nextD (mvs b st) x = none → Ex "BadRow" (.int (i : Int)) := fun hn => hx _ (by
          rw [hb]
          unfold rowBad
          rw [hn]
          rfl)
        have hmv : atI (b.map fun s => M.DK (kvD s)) (st : Int) = some (.DK (kvD (mvs b st))) := atI_nat (by rw [List.getElem?_map, mvs_lt hst]; rfl)
        cases x with
        | int m =>
          refine ⟨_, 0, 99, rfl, rfl, rfl, ?_⟩
          cases hw : inD (.int m) 0 99 with
          | false => exact bad (next_out fb hst hw)
          | true =>
            refine ⟨_, hmv, .inl m, rfl, ?_⟩
            show if (!(valD (kvD (mvs b st)) (.inl m)).isSome) = true then _ else _
            rw [valD_next]
            cases hn : nextD (mvs b st) (.int m) with
            | none => exact bad hn
            | some t =>
              have ht : t < b.length := by
                obtain ⟨m', _, hm⟩ := next_mem hn
                exact fb.to hm
              refine ⟨_, hmv, .inl m, .int (t : Int), rfl, by rw [valD_next, hn]; rfl, ?_⟩
              have eb : rowBad b st i (.int m :: ds.drop (i + 1)) = rowBad b t (i + 1) (ds.drop (i + 1)) := by rw [rowBad, hn]
              have es : rowSts b st (.int m :: ds.drop (i + 1)) = t :: rowSts b t (ds.drop (i + 1)) := by rw [rowSts, hn]
              exact ⟨by unfold natsD; rw [List.length_map]; exact sz5000' (by omega), t, pre ++ [t], _, _, by unfold natsD; rw [List.map_append]; rfl, ht, by rw [hb, eb], by rw [hs, es]; simp, by simp [hpl]⟩
        | _ => exact ⟨_, 0, 99, rfl, rfl, rfl, bad rfl⟩
      · rintro ρ ⟨st, pre, y5, y6, rfl, hst, hb, hs, hpl⟩
        rw [rgI_len, Int.toNat_natCast, List.drop_length] at hb hs
        have := hk hb
        rw [hs, rowSts, List.append_nil] at this
        exact this
  · refine ⟨d, 0, 20000, rfl, rfl, rfl, ?_⟩
    show if (!tupD d 0 20000) = true then _ else _
    cases ht : tupD d 0 20000 with
    | false => exact hx _ (row_long ht)
    | true =>
      obtain ⟨ds, rfl, hl⟩ := tup_short ht
      rw [row_short hl] at hx
      have hk := hk ds rfl hl
      refine ⟨by simp; exact sz5000 (by have := fb.eight; omega), fun i acc => acc = (b.take i).map fun s => M.DK (kvD s), rfl, ?_, ?_⟩
      · rintro i it acc hit rfl
        obtain ⟨x, hx2, rfl⟩ := one_at hit
        rw [List.getElem?_map] at hx2
        obtain ⟨s, hs, rfl⟩ := Option.map_eq_some_iff.mp hx2
        have hlt := (List.getElem?_eq_some_iff.mp hs).1
        refine ⟨kvD s, by rw [← kvD_pr]; rfl, ?_⟩
        show _ = _
        rw [take_snoc hs, List.map_append, ← mvs_of hs, fb.kv hlt]
        rfl
      rintro acc rfl
      rw [ones_len, List.length_map, List.take_length]
      refine ⟨⟨by omega, by omega⟩, fun i ρ => ∃ (st : Nat) (pre : List Nat) (y5 y6 : Sl), ρ = [.im (bookD b), .od (.tuple ds), .mu (.LL (b.map fun s => M.DK (kvD s))), .mu (.L (natsD pre)), .im (.int (st : Int)), y5, y6] ∧ st < b.length ∧ rowBad b 0 0 ds = rowBad b st i (ds.drop i) ∧ 0 :: rowSts b 0 ds = pre ++ rowSts b st (ds.drop i) ∧ pre.length = i + 1, ⟨0, [0], _, _, rfl, fb.one, rfl, rfl, rfl⟩, ?_, ?_⟩
      · rintro i it ρ hit ⟨st, pre, y5, y6, rfl, hst, hb, hs, hpl⟩
        obtain ⟨hlt, rfl⟩ := rgI_at hit
        rw [Int.toNat_natCast] at hlt
        obtain ⟨x, hx2⟩ := get_lt hlt
        rw [drop_at hx2] at hb hs
        refine ⟨x, atI_at hx2, ?_⟩
        rw [Int.zero_add]
        have bad : nextD (mvs b st) x = none → Ex "BadRow" (.int (i : Int)) := fun hn => hx _ (by
          rw [hb]
          unfold rowBad
          rw [hn]
          rfl)
        have hmv : atI (b.map fun s => M.DK (kvD s)) (st : Int) = some (.DK (kvD (mvs b st))) := atI_nat (by rw [List.getElem?_map, mvs_lt hst]; rfl)
        cases x with
        | int m =>
          refine ⟨_, 0, 99, rfl, rfl, rfl, ?_⟩
          cases hw : inD (.int m) 0 99 with
          | false => exact bad (next_out fb hst hw)
          | true =>
            refine ⟨_, hmv, .inl m, rfl, ?_⟩
            show if (!(valD (kvD (mvs b st)) (.inl m)).isSome) = true then _ else _
            rw [valD_next]
            cases hn : nextD (mvs b st) (.int m) with
            | none => exact bad hn
            | some t =>
              have ht : t < b.length := by
                obtain ⟨m', _, hm⟩ := next_mem hn
                exact fb.to hm
              refine ⟨_, hmv, .inl m, .int (t : Int), rfl, by rw [valD_next, hn]; rfl, ?_⟩
              have eb : rowBad b st i (.int m :: ds.drop (i + 1)) = rowBad b t (i + 1) (ds.drop (i + 1)) := by rw [rowBad, hn]
              have es : rowSts b st (.int m :: ds.drop (i + 1)) = t :: rowSts b t (ds.drop (i + 1)) := by rw [rowSts, hn]
              exact ⟨by unfold natsD; rw [List.length_map]; exact sz5000' (by omega), t, pre ++ [t], _, _, by unfold natsD; rw [List.map_append]; rfl, ht, by rw [hb, eb], by rw [hs, es]; simp, by simp [hpl]⟩
        | _ => exact ⟨_, 0, 99, rfl, rfl, rfl, bad rfl⟩
      · rintro ρ ⟨st, pre, y5, y6, rfl, hst, hb, hs, hpl⟩
        rw [rgI_len, Int.toNat_natCast, List.drop_length] at hb hs
        have := hk hb
        rw [hs, rowSts, List.append_nil] at this
        exact this
end
end Nv
set_option maxHeartbeats 2000000
set_option pp.maxSteps 2500
set_option Elab.async false
set_option linter.all false
set_option maxRecDepth 100000
namespace Nv
open PySem PySem.Spec PyProof.Rows L2
section
variable {P : Program} {w : World} {K : PySem.W.Frag} {mg : Str → Option Value} {base : Heap}
/-! ### lots -/
def sv_some_lot : S1 := fun a Po _ => ∃ l : Lot, a = .p (lotD l) ∧ (∀ n ∈ l, 0 ≤ n) ∧ l.length ≤ 1000 ∧ Po (.p (.bool true))
theorem all_trues : ∀ n : Nat, (List.replicate n true).all id = true
  | 0 => rfl
  | n + 1 => by rw [List.replicate_succ, List.all_cons, all_trues n]; rfl
theorem rep_snoc {α : Type} (x : α) (n : Nat) : List.replicate n x ++ [x] = List.replicate (n + 1) x := by rw [← List.replicate_append_replicate]; rfl
theorem sc_some_lot : FnScope ["thing", "number"] ["thing"] (defScope s_some_lot) := ⟨rfl, rfl, rfl, by decide +kernel, rfl, by decide +kernel, by decide +kernel⟩
theorem okV_some_lot (T : Tx K mg) : FnOk P w K mg base CX0 3 T.some_lot.f T.some_lot.fd ["thing"] (spC K (sv1 sv_some_lot)) := by
  refine T.some_lot.F.ok sc_some_lot (fun vs H Q E h => spC_len sv1_len h) (fun cdv A outer s H vs Q E hr h => ?_)
  refine ⟨_, (show PSs _ _ (liftS ⟨K, clT T, E⟩ _) from (vs_one (vs_ret (ve_and (ve_isi kit_tup (pe_callB (call_isiK' K) (by rfl) T.n_isinstance (by decide +kernel) (pa_cons (ve_var (pv 0)) (pa_cons (pe_bltn (v := .ty "tuple") (by rfl) T.n_tuple (by decide +kernel) rfl) pa_nil)))) (ve_one (ve_cb (pe_callB (cr_allK K) (by rfl) T.n_all (by decide +kernel) (va_cons (ve_lc (pe_lc (own := [("number", 1)]) rfl sc_some_lot.nd (vi_seq (pi_anyK K (ve_var (pv 0)))) (blkOk_by (own := [("number", 1)]) (N := ["thing", "number"]) (sc := defScope s_some_lot) (by decide +kernel)) (fun _ _ _ _ _ => (vg_name (pg_name (i := 1) sc_some_lot.nd rfl (.inl rfl)))) (fun _ _ _ _ _ => pts_nil) (fun _ _ _ _ _ => (ve_and (ve_call (pe_call (okV_whole T) (hr.mono (by decide)) (by rfl) T.whole.g T.whole.F.kp T.whole.b .nil pass0 (va_cons (ve_var (pv 1)) va_nil)) (fun _ => .nil)) (ve_one (ve_cmp op_ge c_ge (ve_var (pv 1)) ve_int (nomark _)))))) lift_yes (by decide)) va_nil)) c_all)))))), enterC1 h ?_⟩
  rintro _ Po ⟨l, rfl, h0, hl, h⟩
  refine ⟨by simp; exact sz5000 (by omega), fun i acc => acc = (List.replicate i true).map PyData.bool, rfl, ?_, ?_⟩
  · rintro i it acc hit rfl
    obtain ⟨x, hx, rfl⟩ := one_at hit
    rw [List.getElem?_map] at hx
    obtain ⟨n, hn, rfl⟩ := Option.map_eq_some_iff.mp hx
    refine ⟨_, rfl, _, rfl, ?_⟩
    show _ ++ [PyData.bool (decide (0 ≤ n))] = _
    rw [decide_eq_true (h0 n (List.mem_of_getElem? hn)), ← rep_snoc, List.map_append]
    rfl
  · rintro acc rfl
    refine ⟨_, rfl, ?_⟩
    dsimp only
    rw [all_trues]
    exact h
def sv_lot_on : S2 := fun a b Po _ => ∃ (l : Lot) (w : Nat), a = .p (lotD l) ∧ b = .p (.int (w : Int)) ∧ LotOk w l ∧ w ≤ 1000 ∧ Po (.p (.bool true))
theorem sc_lot_on : FnScope ["thing", "wires"] ["thing", "wires"] (defScope s_lot_on) := ⟨rfl, rfl, rfl, by decide +kernel, rfl, by decide +kernel, by decide +kernel⟩
theorem okV_lot_on (T : Tx K mg) : FnOk P w K mg base CX0 4 T.lot_on.f T.lot_on.fd ["thing", "wires"] (spC K (sv2 sv_lot_on)) := by
  refine T.lot_on.F.ok sc_lot_on (fun vs H Q E h => spC_len sv2_len h) (fun cdv A outer s H vs Q E hr h => ?_)
  refine ⟨_, (show PSs _ _ (liftS ⟨K, clT T, E⟩ _) from (vs_one (vs_ret (ve_and (ve_isi kit_tup (pe_callB (call_isiK' K) (by rfl) T.n_isinstance (by decide +kernel) (pa_cons (ve_var (pv 0)) (pa_cons (pe_bltn (v := .ty "tuple") (by rfl) T.n_tuple (by decide +kernel) rfl) pa_nil)))) (ve_and (ve_cmp op_eq c_eqS (ve_cb (pe_callB (call_len_seqK K) (by rfl) T.n_len PySem.boot_len (va_cons (ve_var (pv 0)) va_nil)) c_len) (ve_var (pv 1)) (nomark _)) (ve_one (ve_call (pe_call (okV_some_lot T) (hr.mono (by decide)) (by rfl) T.some_lot.g T.some_lot.F.kp T.some_lot.b .nil pass0 (va_cons (ve_var (pv 0)) va_nil)) (fun _ => .nil)))))))), enterC2 h ?_⟩
  rintro _ _ Po ⟨l, w, rfl, rfl, ⟨hl, h0⟩, hw, h⟩
  show if decide (((l.map PyData.int).length : Int) = (w : Int)) = true then _ else _
  rw [List.length_map, hl, decide_eq_true rfl]
  exact ⟨l, rfl, h0, by omega, h⟩
def sv_sum_of : S2 := fun a b Po _ => ∃ l m : Lot, a = .p (lotD l) ∧ b = .p (lotD m) ∧ l.length ≤ 1000 ∧ Po (.p (lotD (addL l m)))
theorem two_at {as bs : List Vl} {i : Nat} {it : Iv} (h : (pairs as bs)[i]? = some it) : ∃ a b, as[i]? = some a ∧ bs[i]? = some b ∧ it = .two a b := by
  unfold pairs at h
  rw [List.getElem?_map] at h
  obtain ⟨q, hq, rfl⟩ := Option.map_eq_some_iff.mp h
  obtain ⟨h1, h2⟩ := List.getElem?_zip_eq_some.mp hq
  exact ⟨_, _, h1, h2, rfl⟩
theorem pairs_len {as bs : List Vl} : (pairs as bs).length = min as.length bs.length := by simp [pairs]
theorem sc_sum_of : FnScope ["one", "two", "x", "y"] ["one", "two"] (defScope s_sum_of) := ⟨rfl, rfl, rfl, by decide +kernel, rfl, by decide +kernel, by decide +kernel⟩
theorem okV_sum_of (T : Tx K mg) : FnOk P w K mg base CX0 1 T.sum_of.f T.sum_of.fd ["one", "two"] (spC K (sv2 sv_sum_of)) := by
  refine T.sum_of.F.ok sc_sum_of (fun vs H Q E h => spC_len sv2_len h) (fun cdv A outer s H vs Q E hr h => ?_)
  refine ⟨_, (show PSs _ _ (liftS ⟨K, clT T, E⟩ _) from (vs_one (vs_ret (ve_cb (pe_callTy (call_tupZK K) (by rfl) T.n_tuple (by decide +kernel) (va_cons (ve_lc (pe_lc (own := [("x", 2), ("y", 3)]) rfl sc_sum_of.nd (vi_zp (pi_zipBK K (by rfl) T.n_zip (va_cons (ve_var (pv 0)) (va_cons (ve_var (pv 1)) va_nil)))) (blkOk_by (own := [("x", 2), ("y", 3)]) (N := ["one", "two", "x", "y"]) (sc := defScope s_sum_of) (by decide +kernel)) (fun _ _ _ _ _ => (vg_tup (pg_tupK (n := 2) K rfl (vgs_cons (vg_name (pg_name (i := 2) sc_sum_of.nd rfl (.inl rfl))) (vgs_cons (vg_name (pg_name (i := 3) sc_sum_of.nd rfl (.inl rfl))) vgs_nil))))) (fun _ _ _ _ _ => pts_nil) (fun _ _ _ _ _ => (ve_op op_add c_add (ve_var (pv 2)) (ve_var (pv 3))))) lift_yes (by decide)) va_nil)) c_tupOf)))), enterC2 h ?_⟩
  rintro _ _ Po ⟨l, m, rfl, rfl, hl, h⟩
  refine ⟨by rw [pairs_len]; simp; exact sz5000 (by omega), fun i acc => acc = ((addL l m).take i).map PyData.int, rfl, ?_, ?_⟩
  · rintro i it acc hit rfl
    obtain ⟨x, y, hx, hy, rfl⟩ := two_at hit
    rw [List.map_map, List.getElem?_map] at hx hy
    obtain ⟨n, hn, rfl⟩ := Option.map_eq_some_iff.mp hx
    obtain ⟨k, hk, rfl⟩ := Option.map_eq_some_iff.mp hy
    refine ⟨rfl, _, rfl, ?_⟩
    show _ = _
    have : (addL l m)[i]? = some (n + k) := by unfold addL; rw [List.getElem?_map, (List.getElem?_zip_eq_some (z := (n, k))).mpr ⟨hn, hk⟩]; rfl
    rw [take_snoc this, List.map_append]
    rfl
  · rintro acc rfl
    have e : (pairs ((l.map PyData.int).map Vl.p) ((m.map PyData.int).map Vl.p)).length = (addL l m).length := by rw [pairs_len]; simp [addL]
    show Po (.p (.tuple _))
    rw [e, List.take_length]
    exact h
/-! ### the form of a laying -/
def sv_state_told : S1 := fun a Po _ => ∃ p : Plc, a = .p (plcD p) ∧ Po (.p (.int (p.1 : Int)))
theorem sc_state_told : FnScope ["thing"] ["thing"] (defScope s_state_told) := ⟨rfl, rfl, rfl, by decide +kernel, rfl, by decide +kernel, by decide +kernel⟩
theorem okV_state_told (T : Tx K mg) : FnOk P w K mg base CX0 2 T.state_told.f T.state_told.fd ["thing"] (spC K (sv1 sv_state_told)) := by
  refine T.state_told.F.ok sc_state_told (fun vs H Q E h => spC_len sv1_len h) (fun cdv A outer s H vs Q E hr h => ?_)
  refine ⟨_, (show PSs _ _ (liftS ⟨K, clT T, E⟩ _) from (vs_cons (vs_if (PW.pt (vw_and (vt_val (ve_call (pe_call (okV_tuple_within T) (hr.mono (by decide)) (by rfl) T.tuple_within.g T.tuple_within.F.kp T.tuple_within.b .nil pass0 (va_cons (ve_var (pv 0)) (va_cons ve_int (va_cons ve_int va_nil)))) (fun _ => .nil))) (vw_and (vt_val (ve_call (pe_call (okV_whole T) (hr.mono (by decide)) (by rfl) T.whole.g T.whole.F.kp T.whole.b .nil pass0 (va_cons (ve_ix (ix_anyK K) c_ix (ve_var (pv 0)) ve_int (fun _ _ => rfl)) va_nil)) (fun _ => .nil))) (pw_and1 (vt_cmp op_ge c_ge (ve_ix (ix_anyK K) c_ix (ve_var (pv 0)) ve_int (fun _ _ => rfl)) ve_int (nomark _))))))
        (vs_one (vs_ret (ve_ix (ix_anyK K) c_ix (ve_var (pv 0)) ve_int (fun _ _ => rfl))))
        vs_nil)
      (vs_one (vs_ret ve_non)))), enterC1 h ?_⟩
  rintro _ Po ⟨p, rfl, h⟩
  refine ⟨plcD p, 2, 2, rfl, rfl, rfl, ?_⟩
  rw [show tupD (plcD p) 2 2 = true from rfl]
  refine ⟨.int (p.1 : Int), rfl, .int (p.1 : Int), rfl, .int (p.1 : Int), rfl, ?_⟩
  exact ⟨.int (p.1 : Int), rfl, h⟩
def sv_fits_state : S4 := fun a b c d Po _ => ∃ (bk : Book) (w : Nat) (ps : List Plc) (p : Plc), LayOk bk w ps ∧ p ∈ ps ∧ a = .p (.tuple (p.2.map stpD)) ∧ b = .p (stD (mvs bk p.1)) ∧ c = .p (.int (w : Int)) ∧ d = .k (.L (ps.map fun p => .int (p.1 : Int))) ∧ Po (.p (.bool true))
theorem sc_fits_state : FnScope ["moves", "pairs", "wires", "states", "move", "pair", "to", "lot"] ["moves", "pairs", "wires", "states"] (defScope s_fits_state) := ⟨rfl, rfl, rfl, by decide +kernel, rfl, by decide +kernel, by decide +kernel⟩
theorem okV_fits_state (T : Tx K mg) : FnOk P w K mg base CX0 5 T.fits_state.f T.fits_state.fd ["moves", "pairs", "wires", "states"] (spC K (sv4 sv_fits_state)) := by
  refine T.fits_state.F.ok sc_fits_state (fun vs H Q E h => spC_len sv4_len h) (fun cdv A outer s H vs Q E hr h => ?_)
  refine ⟨_, (show PSs _ _ (liftS ⟨K, clT T, E⟩ _) from (vs_cons (vs_if (vt_not (vt_val (ve_call (pe_call (okV_tuple_within T) (hr.mono (by decide)) (by rfl) T.tuple_within.g T.tuple_within.F.kp T.tuple_within.b .nil pass0 (va_cons (ve_var (pv 0)) (va_cons (ve_cb (pe_callB (call_len_seqK K) (by rfl) T.n_len PySem.boot_len (va_cons (ve_var (pv 1)) va_nil)) c_len) (va_cons (ve_cb (pe_callB (call_len_seqK K) (by rfl) T.n_len PySem.boot_len (va_cons (ve_var (pv 1)) va_nil)) c_len) va_nil)))) (fun _ => .nil))))
        (vs_one (vs_ret ve_bl))
        vs_nil)
      (vs_cons (vs_for PassesOwn.never rfl (vi_zp (pi_zipBK K (by rfl) T.n_zip (va_cons (ve_var (pv 0)) (va_cons (ve_var (pv 1)) va_nil)))) (vg_tup (pg_tupK (n := 2) K rfl (vgs_cons (vg_name (pg_name (i := 4) sc_fits_state.nd rfl (.inl rfl))) (vgs_cons (vg_name (pg_name (i := 5) sc_fits_state.nd rfl (.inl rfl))) vgs_nil))))
        (vs_cons (vs_if (vt_not (vt_val (ve_call (pe_call (okV_tuple_within T) (hr.mono (by decide)) (by rfl) T.tuple_within.g T.tuple_within.F.kp T.tuple_within.b .nil pass0 (va_cons (ve_var (pv 4)) (va_cons ve_int (va_cons ve_int va_nil)))) (fun _ => .nil))))
          (vs_one (vs_ret ve_bl))
          vs_nil)
        (vs_cons (vs_asg (ps_asg (ve_var (pv 4)) (vg_tup (pg_tupK (n := 2) K rfl (vgs_cons (vg_name (pg_name (i := 6) sc_fits_state.nd rfl (.inl rfl))) (vgs_cons (vg_name (pg_name (i := 7) sc_fits_state.nd rfl (.inl rfl))) vgs_nil))))))
        (vs_one (vs_if (PW.pt (vw_or (vt_not (vt_val (ve_call (pe_call (okV_whole_within T) (hr.mono (by decide)) (by rfl) T.whole_within.g T.whole_within.F.kp T.whole_within.b .nil pass0 (va_cons (ve_var (pv 6)) (va_cons ve_int (va_cons (ve_op op_sub c_sub (ve_cb (pe_callB (call_len_seqK K) (by rfl) T.n_len PySem.boot_len (va_cons (ve_var (pv 3)) va_nil)) c_len) ve_int) va_nil)))) (fun _ => .nil)))) (vw_or (vt_cmp op_ne c_neS (ve_ix (ix_anyK K) c_ix (ve_var (pv 3)) (ve_var (pv 6)) (fun _ _ => rfl)) (ve_ix (ix_anyK K) c_ix (ve_var (pv 5)) ve_int (fun _ _ => rfl)) (nomark _)) (pw_or1 (vt_not (vt_val (ve_call (pe_call (okV_lot_on T) (hr.mono (by decide)) (by rfl) T.lot_on.g T.lot_on.F.kp T.lot_on.b .nil pass0 (va_cons (ve_var (pv 7)) (va_cons (ve_var (pv 2)) va_nil))) (fun _ => .nil))))))))
          (vs_one (vs_ret ve_bl))
          vs_nil)))))
      (vs_one (vs_ret ve_bl))))), enterC4 h ?_⟩
  rintro _ _ _ _ Po ⟨b, w, ps, p, ok, hp, rfl, rfl, rfl, rfl, h⟩
  refine ⟨_, _, _, rfl, rfl, rfl, ?_⟩
  have e1 : tupD (.tuple (p.2.map stpD)) (((mvs b p.1).map mvD).length : Int) (((mvs b p.1).map mvD).length : Int) = true := decide_eq_true (by simp [ok.len p hp])
  show if (!tupD (.tuple (p.2.map stpD)) (((mvs b p.1).map mvD).length : Int) (((mvs b p.1).map mvD).length : Int)) = true then _ else _
  rw [e1]
  refine ⟨fun i ρ => ∃ y4 y5 y6 y7, ρ = [.im (.tuple (p.2.map stpD)), .im (stD (mvs b p.1)), .im (.int (w : Int)), .rd (.L (ps.map fun p => .int (p.1 : Int))), y4, y5, y6, y7], ⟨_, _, _, _, rfl⟩, ?_, ?_⟩
  · rintro i it ρ hit ⟨y4, y5, y6, y7, rfl⟩
    obtain ⟨x, y, hx, hy, rfl⟩ := two_at hit
    rw [List.map_map, List.getElem?_map] at hx hy
    obtain ⟨m, hm, rfl⟩ := Option.map_eq_some_iff.mp hx
    obtain ⟨q, hq, rfl⟩ := Option.map_eq_some_iff.mp hy
    obtain ⟨r, hr, er⟩ := ok.to p hp i m q hm hq
    have hlt := (List.getElem?_eq_some_iff.mp hr).1
    refine ⟨rfl, stpD m, 2, 2, rfl, rfl, rfl, ?_⟩
    rw [show tupD (stpD m) 2 2 = true from rfl]
    refine ⟨rfl, .int (m.1 : Int), 0, _, rfl, rfl, rfl, ?_⟩
    have e2 : inD (.int (m.1 : Int)) 0 (((ps.map fun p => (PyData.int (p.1 : Int))).length : Int) - 1) = true := decide_eq_true ⟨by omega, by rw [List.length_map]; omega⟩
    show if (!inD (.int (m.1 : Int)) 0 (((ps.map fun p => (PyData.int (p.1 : Int))).length : Int) - 1)) = true then _ else _
    rw [e2]
    refine ⟨.int (r.1 : Int), atI_nat (by rw [List.getElem?_map, hr]; rfl), .int (q.2 : Int), rfl, ?_⟩
    rw [er]
    show if (!decide ((q.2 : Int) = (q.2 : Int))) = true then _ else _
    rw [decide_eq_true rfl]
    exact ⟨m.2, w, rfl, rfl, ok.lot p hp m (List.mem_of_getElem? hm), by have := ok.w6; omega, _, _, _, _, rfl⟩
  · rintro ρ ⟨y4, y5, y6, y7, rfl⟩
    exact h
def sv_check_laying : S2 := fun a b Po _ => ∃ (bk : Book) (w : Nat) (ps : List Plc), FormB bk ∧ LayOk bk w ps ∧ a = .p (bookD bk) ∧ b = .p (layD w ps) ∧ Po (.p .none)
theorem sc_check_laying : FnScope ["book", "thing", "wires", "places", "states", "p", "state", "place"] ["book", "thing"] (defScope s_check_laying) := ⟨rfl, rfl, rfl, by decide +kernel, rfl, by decide +kernel, by decide +kernel⟩
theorem okX_check_laying (T : Tx K mg) : FnOk P w K mg base (L2.CX P w) 6 T.check_laying.f T.check_laying.fd ["book", "thing"] (spV K (clT T) (sv2 sv_check_laying)) := by
  refine T.check_laying.F.okX sc_check_laying (fun vs H Q E h => spV_len sv2_len h) (fun cdv A outer s H vs Q E hr h => ?_)
  refine ⟨_, (show PSs _ _ (liftS ⟨K, clT T, E⟩ _) from (vs_cons (vs_if (vt_not (vt_val (ve_call (pe_call (okV_tuple_within T) (hr.mono (by decide)) (by rfl) T.tuple_within.g T.tuple_within.F.kp T.tuple_within.b .nil pass0 (va_cons (ve_var (pv 1)) (va_cons ve_int (va_cons ve_int va_nil)))) (fun _ => .nil))))
        (vs_one (vs_raise rfl (takes_of rfl rfl rfl rfl) (pmk_X T.x_BadLaying T.init.ti (ok_init T) (hr.mono (by decide)) T.init.b (by rfl) (ve_un un_neg c_neg ve_int)) (cl_BadLaying T)))
        vs_nil)
      (vs_cons (vs_asg (ps_asg (ve_var (pv 1)) (vg_tup (pg_tupK (n := 2) K rfl (vgs_cons (vg_name (pg_name (i := 2) sc_check_laying.nd rfl (.inl rfl))) (vgs_cons (vg_name (pg_name (i := 3) sc_check_laying.nd rfl (.inl rfl))) vgs_nil))))))
      (vs_cons (vs_if (PW.pt (vw_or (vt_not (vt_val (ve_call (pe_call (okV_whole_within T) (hr.mono (by decide)) (by rfl) T.whole_within.g T.whole_within.F.kp T.whole_within.b .nil pass0 (va_cons (ve_var (pv 2)) (va_cons ve_int (va_cons (ve_const (pe_glob (v := .int 6) (by rfl) T.c_MOST_WIRES.choose_spec ⟨_, rfl⟩)) va_nil)))) (fun _ => .nil)))) (pw_or1 (vt_not (vt_val (ve_call (pe_call (okV_tuple_within T) (hr.mono (by decide)) (by rfl) T.tuple_within.g T.tuple_within.F.kp T.tuple_within.b .nil pass0 (va_cons (ve_var (pv 3)) (va_cons ve_int (va_cons (ve_const (pe_glob (v := .int 2000) (by rfl) T.c_MOST_PLACES.choose_spec ⟨_, rfl⟩)) va_nil)))) (fun _ => .nil)))))))
        (vs_one (vs_raise rfl (takes_of rfl rfl rfl rfl) (pmk_X T.x_BadLaying T.init.ti (ok_init T) (hr.mono (by decide)) T.init.b (by rfl) (ve_un un_neg c_neg ve_int)) (cl_BadLaying T)))
        vs_nil)
      (vs_cons (vs_setOf (ps_setLc (i := 4) (own := [("place", 7)]) rfl sc_check_laying.nd rfl rfl (sw_true rfl rfl rfl (by decide +kernel)) (vi_seq (pi_anyK K (ve_var (pv 3)))) (blkOk_by (own := [("place", 7)]) (N := ["book", "thing", "wires", "places", "states", "p", "state", "place"]) (sc := defScope s_check_laying) (by decide +kernel)) (fun _ _ _ _ _ => (vg_name (pg_name (i := 7) sc_check_laying.nd rfl (.inl rfl)))) (fun _ _ _ _ _ => pts_nil) (fun _ _ _ _ _ => (ve_call (pe_call (okV_state_told T) (hr.mono (by decide)) (by rfl) T.state_told.g T.state_told.F.kp T.state_told.b .nil pass0 (va_cons (ve_var (pv 7)) va_nil)) (fun _ => .nil)))) (lift_lc (by decide) lift_yes))
      (vs_one (vs_for (passes_of rfl) rfl (vi_range1 (pi_range1 (by rfl) T.n_range (va_cons (ve_cb (pe_callB (call_len_seqK K) (by rfl) T.n_len PySem.boot_len (va_cons (ve_var (pv 3)) va_nil)) c_len) va_nil))) (vg_name (pg_name (i := 5) sc_check_laying.nd rfl (.inl rfl)))
        (vs_cons (vs_setS (i := 6) sc_check_laying.nd rfl (.inl rfl) (ve_ix (ix_anyK K) c_ix (ve_var (pv 4)) (ve_var (pv 5)) (fun _ _ => rfl)))
        (vs_cons (vs_if (PW.pt (vw_or (vt_cmp op_isN c_isN (ve_var (pv 6)) ve_non (nomark _)) (vw_or (vt_cmp op_ge c_ge (ve_var (pv 6)) (ve_cb (pe_callB (call_len_seqK K) (by rfl) T.n_len PySem.boot_len (va_cons (ve_var (pv 0)) va_nil)) c_len) (nomark _)) (pw_or1 (PW.pt (vw_and (vt_cmp op_eq c_eqS (ve_var (pv 5)) ve_int (nomark _)) (pw_and1 (vt_cmp op_ne c_neS (ve_var (pv 6)) ve_int (nomark _)))))))))
          (vs_one (vs_raise rfl (takes_of rfl rfl rfl rfl) (pmk_X T.x_BadLaying T.init.ti (ok_init T) (hr.mono (by decide)) T.init.b (by rfl) (ve_var (pv 5))) (cl_BadLaying T)))
          vs_nil)
        (vs_one (vs_if (vt_not (vt_val (ve_call (pe_call (okV_fits_state T) (hr.mono (by decide)) (by rfl) T.fits_state.g T.fits_state.F.kp T.fits_state.b .nil pass0 (va_cons (ve_ix (ix_anyK K) c_ix (ve_ix (ix_anyK K) c_ix (ve_var (pv 3)) (ve_var (pv 5)) (fun _ _ => rfl)) ve_int (fun _ _ => rfl)) (va_cons (ve_ix (ix_anyK K) c_ix (ve_var (pv 0)) (ve_var (pv 6)) (fun _ _ => rfl)) (va_cons (ve_var (pv 2)) (va_cons (ve_var (pv 4)) va_nil))))) (fun _ => .nil))))
          (vs_one (vs_raise rfl (takes_of rfl rfl rfl rfl) (pmk_X T.x_BadLaying T.init.ti (ok_init T) (hr.mono (by decide)) T.init.b (by rfl) (ve_var (pv 5))) (cl_BadLaying T)))
          vs_nil))))))))))), enter2 h ?_⟩
  rintro _ _ Po Ex ⟨b, w, ps, fb, ok, rfl, rfl, h⟩
  refine ⟨layD w ps, 2, 2, rfl, rfl, rfl, ?_⟩
  rw [show tupD (layD w ps) 2 2 = true from rfl]
  refine ⟨rfl, .int (w : Int), 0, 6, rfl, rfl, rfl, ?_⟩
  have e1 : inD (.int (w : Int)) 0 6 = true := decide_eq_true ⟨by omega, by have := ok.w6; omega⟩
  show if (!inD (.int (w : Int)) 0 6) = true then _ else _
  rw [e1]
  refine ⟨.tuple (ps.map plcD), 1, 2000, rfl, rfl, rfl, ?_⟩
  have e2 : tupD (.tuple (ps.map plcD)) 1 2000 = true := decide_eq_true ⟨by have := ok.n1; simp; omega, by have := ok.n2; simp; omega⟩
  show if (!tupD (.tuple (ps.map plcD)) 1 2000) = true then _ else _
  rw [e2]
  refine ⟨by simp; exact sz5000 (by have := ok.n2; omega), fun i acc => acc = (ps.take i).map fun p => .int (p.1 : Int), rfl, ?_, ?_⟩
  · rintro i it acc hit rfl
    obtain ⟨x, hx, rfl⟩ := one_at hit
    rw [List.getElem?_map] at hx
    obtain ⟨p, hp, rfl⟩ := Option.map_eq_some_iff.mp hx
    refine ⟨p, rfl, _, rfl, ?_⟩
    show _ = _
    rw [take_snoc hp, List.map_append]
    rfl
  rintro acc rfl
  rw [ones_len, List.length_map, List.take_length]
  refine ⟨⟨by omega, by have := ok.n2; simp; omega⟩, fun i ρ => ∃ y5 y6 y7, ρ = [.im (bookD b), .im (layD w ps), .im (.int (w : Int)), .im (.tuple (ps.map plcD)), .mu (.L (ps.map fun p => .int (p.1 : Int))), y5, y6, y7], ⟨_, _, _, rfl⟩, ?_, ?_⟩
  · rintro i it ρ hit ⟨y5, y6, y7, rfl⟩
    obtain ⟨hlt, rfl⟩ := rgI_at hit
    rw [Int.toNat_natCast, List.length_map] at hlt
    obtain ⟨p, hp⟩ := get_lt hlt
    have pm := List.mem_of_getElem? hp
    have st := ok.st p pm
    rw [Int.zero_add]
    refine ⟨.int (p.1 : Int), atI_nat (by rw [List.getElem?_map, hp]; rfl), ?_⟩
    have e3 : decide (((b.map stD).length : Int) ≤ (p.1 : Int)) = false := decide_eq_false (by simp; omega)
    show if decide (((b.map stD).length : Int) ≤ (p.1 : Int)) = true then _ else _
    rw [e3]
    show if decide ((i : Int) = 0) = true then _ else _
    by_cases h0 : i = 0
    · have p0 : p.1 = 0 := ok.s0 p (by rw [← h0]; exact hp)
      rw [decide_eq_true (by omega), p0]
      refine ⟨plcD p, atI_nat (by rw [List.getElem?_map, hp]; rfl), _, rfl, stD (mvs b p.1), by rw [p0]; exact atI_nat (by rw [List.getElem?_map, mvs_lt (by omega)]; rfl), ?_⟩
      exact ⟨b, w, ps, p, ok, pm, rfl, rfl, rfl, rfl, _, _, _, rfl⟩
    · rw [decide_eq_false (by omega)]
      refine ⟨plcD p, atI_nat (by rw [List.getElem?_map, hp]; rfl), _, rfl, stD (mvs b p.1), atI_nat (by rw [List.getElem?_map, mvs_lt st]; rfl), ?_⟩
      exact ⟨b, w, ps, p, ok, pm, rfl, rfl, rfl, rfl, _, _, _, rfl⟩
  · rintro ρ ⟨y5, y6, y7, rfl⟩
    exact h
theorem okV_check_laying (T : Tx K mg) : FnOk P w K mg base CX0 6 T.check_laying.f T.check_laying.fd ["book", "thing"] (spC K (sv2 sv_check_laying)) := FnOk.calmV (okX_check_laying T)
def sv_made_laying : S2 := fun a b Po _ => ∃ (bk : Book) (w : Nat) (ps : List Plc), OkB bk ∧ LayOk bk w ps ∧ a = .p (bookD bk) ∧ b = .p (layD w ps) ∧ Po (.p (layD w ps))
theorem made_ok {b : Book} {X1 : Int → Prop} {X2 : Nat → Prop} {Po : Prop} (ok : OkB b) (h : Po) : (∀ e, formErr (bookD b) = some e → X1 e) ∧ ∀ c : Book, bookD b = bookD c → FormB c → (∀ s : Nat, s < c.length → s ∉ ordB c → (∀ k, k < s → k ∈ ordB c) → X2 s) ∧ (OkB c → Po) := by
  refine ⟨fun e z => (by rw [form_noneD ok.toFormB] at z; cases z), fun c e fc => ?_⟩
  have := bookD_inj e
  subst this
  exact ⟨fun s h1 h2 _ => absurd (met_ok ok s h1) h2, fun _ => h⟩
theorem sc_made_laying : FnScope ["book", "thing"] ["book", "thing"] (defScope s_made_laying) := ⟨rfl, rfl, rfl, by decide +kernel, rfl, by decide +kernel, by decide +kernel⟩
theorem okV_made_laying (T : Tx K mg) : FnOk P w K mg base CX0 7 T.made_laying.f T.made_laying.fd ["book", "thing"] (spC K (sv2 sv_made_laying)) := by
  refine T.made_laying.F.ok sc_made_laying (fun vs H Q E h => spC_len sv2_len h) (fun cdv A outer s H vs Q E hr h => ?_)
  refine ⟨_, (show PSs _ _ (liftS ⟨K, clT T, E⟩ _) from (vs_cons (vs_expr (ve_call (pe_call (okV_made_book T) (hr.mono (by decide)) (by rfl) T.made_book.g T.made_book.F.kp T.made_book.b .nil pass0 (va_cons (ve_var (pv 0)) va_nil)) (fun _ => .nil)))
      (vs_cons (vs_expr (ve_call (pe_call (okV_check_laying T) (hr.mono (by decide)) (by rfl) T.check_laying.g T.check_laying.F.kp T.check_laying.b .nil pass0 (va_cons (ve_var (pv 0)) (va_cons (ve_var (pv 1)) va_nil))) (fun _ => .nil)))
      (vs_one (vs_ret (ve_var (pv 1))))))), enterC2 h ?_⟩
  rintro _ _ Po ⟨b, w, ps, okb, ok, rfl, rfl, h⟩
  refine ⟨_, rfl, made_ok okb ?_⟩
  exact ⟨b, w, ps, okb.toFormB, ok, rfl, rfl, h⟩
def sv_is_laying : S2 := fun a b Po _ => ∃ (bk : Book) (w : Nat) (ps : List Plc), OkB bk ∧ LayOk bk w ps ∧ a = .p (bookD bk) ∧ b = .p (layD w ps) ∧ Po (.p (.bool true))
theorem sc_is_laying : FnScope ["book", "thing"] ["book", "thing"] (defScope s_is_laying) := ⟨rfl, rfl, rfl, by decide +kernel, rfl, by decide +kernel, by decide +kernel⟩
theorem okV_is_laying (T : Tx K mg) : FnOk P w K mg base CX0 7 T.is_laying.f T.is_laying.fd ["book", "thing"] (spC K (sv2 sv_is_laying)) := by
  refine T.is_laying.F.ok sc_is_laying (fun vs H Q E h => spC_len sv2_len h) (fun cdv A outer s H vs Q E hr h => ?_)
  refine ⟨_, (show PSs _ _ (liftS ⟨K, clT T, E⟩ _) from (vs_cons (vs_expr (ve_call (pe_call (okV_made_book T) (hr.mono (by decide)) (by rfl) T.made_book.g T.made_book.F.kp T.made_book.b .nil pass0 (va_cons (ve_var (pv 0)) va_nil)) (fun _ => .nil)))
      (vs_cons (ps_try_thru0 (vs_one (vs_expr (ve_call (pe_call (okV_check_laying T) (hr.mono (by decide)) (by rfl) T.check_laying.g T.check_laying.F.kp T.check_laying.b .nil pass0 (va_cons (ve_var (pv 0)) (va_cons (ve_var (pv 1)) va_nil))) (fun _ => .nil)))))
      (vs_one (vs_ret ve_bl))))), enterC2 h ?_⟩
  rintro _ _ Po ⟨b, w, ps, okb, ok, rfl, rfl, h⟩
  refine ⟨_, rfl, made_ok okb ?_⟩
  exact ⟨b, w, ps, okb.toFormB, ok, rfl, rfl, h⟩
end
end Nv
set_option maxHeartbeats 2000000
set_option pp.maxSteps 2500
set_option Elab.async false
set_option linter.all false
set_option maxRecDepth 100000
namespace Nv
open PySem PySem.Spec PyProof.Rows L2
section
variable {P : Program} {w : World} {K : PySem.W.Frag} {mg : Str → Option Value} {base : Heap}
/-! ### along a laying -/
def Valid (b : Book) (w : Nat) (ps : List Plc) : Prop := FormB b ∧ LayOk b w ps
def sv_moves_of : S2 := fun a c Po _ => ∃ (b : Book) (w : Nat) (ps : List Plc), Valid b w ps ∧ a = .p (bookD b) ∧ c = .p (layD w ps) ∧ Po (.f (.L ((mvL b ps).map stD)))
theorem state_at {b : Book} {s : Nat} (h : s < b.length) : atI (b.map stD) (s : Int) = some (stD (mvs b s)) := atI_nat (by rw [List.getElem?_map, mvs_lt h]; rfl)
theorem map2_at {α β : Type} {f : α → β} {g : β → Vl} {l : List α} {i : Nat} {v : Vl} (h : ((l.map f).map g)[i]? = some v) : ∃ x, l[i]? = some x ∧ v = g (f x) := by
  rw [List.map_map, List.getElem?_map] at h
  obtain ⟨x, hx, rfl⟩ := Option.map_eq_some_iff.mp h
  exact ⟨x, hx, rfl⟩
theorem one_at2 {α β : Type} {f : α → β} {g : β → Vl} {l : List α} {i : Nat} {it : Iv} (h : (((l.map f).map g).map Iv.one)[i]? = some it) : ∃ x, l[i]? = some x ∧ it = .one (g (f x)) := by
  obtain ⟨y, hy, rfl⟩ := one_at h
  rw [List.getElem?_map] at hy
  obtain ⟨x, hx, rfl⟩ := Option.map_eq_some_iff.mp hy
  exact ⟨x, hx, rfl⟩
theorem zip_at {α β : Type} {l : List α} {m : List β} {i : Nat} {x : α} {y : β} (hx : l[i]? = some x) (hy : m[i]? = some y) : (l.zip m)[i]? = some (x, y) := List.getElem?_zip_eq_some.mpr ⟨hx, hy⟩
theorem sc_moves_of : FnScope ["book", "laying", "state", "moves", "pair", "move"] ["book", "laying"] (defScope s_moves_of) := ⟨rfl, rfl, rfl, by decide +kernel, rfl, by decide +kernel, by decide +kernel⟩
theorem okV_moves_of (T : Tx K mg) : FnOk P w K mg base CX0 1 T.moves_of.f T.moves_of.fd ["book", "laying"] (spC K (sv2 sv_moves_of)) := by
  refine T.moves_of.F.ok sc_moves_of (fun vs H Q E h => spC_len sv2_len h) (fun cdv A outer s H vs Q E hr h => ?_)
  refine ⟨_, (show PSs _ _ (liftS ⟨K, clT T, E⟩ _) from (vs_one (vs_ret (ve_lc (pe_lc (own := [("state", 2), ("moves", 3)]) rfl sc_moves_of.nd (vi_seq (pi_anyK K (ve_ix (ix_anyK K) c_ix (ve_var (pv 1)) ve_int (fun _ _ => rfl)))) (blkOk_by (own := [("state", 2), ("moves", 3)]) (N := ["book", "laying", "state", "moves", "pair", "move"]) (sc := defScope s_moves_of) (by decide +kernel)) (fun _ _ _ _ _ => (vg_tup (pg_tupK (n := 2) K rfl (vgs_cons (vg_name (pg_name (i := 2) sc_moves_of.nd rfl (.inl rfl))) (vgs_cons (vg_name (pg_name (i := 3) sc_moves_of.nd rfl (.inl rfl))) vgs_nil))))) (fun _ _ _ _ _ => pts_nil) (fun _ _ _ _ _ => (ve_cb (pe_callTy (call_tupZK K) (by rfl) T.n_tuple (by decide +kernel) (va_cons (ve_lc (pe_lc (own := [("pair", 4), ("move", 5)]) rfl sc_moves_of.nd (vi_zp (pi_zipBK K (by rfl) T.n_zip (va_cons (ve_ix (ix_anyK K) c_ix (ve_var (pv 0)) (ve_var (pv 2)) (fun _ _ => rfl)) (va_cons (ve_var (pv 3)) va_nil)))) (blkOk_by (own := [("pair", 4), ("move", 5)]) (by kernel_rfl)) (fun _ _ _ _ _ => (vg_tup (pg_tupK (n := 2) K rfl (vgs_cons (vg_name (pg_name (i := 4) sc_moves_of.nd rfl (.inl rfl))) (vgs_cons (vg_name (pg_name (i := 5) sc_moves_of.nd rfl (.inl rfl))) vgs_nil))))) (fun _ _ _ _ _ => pts_nil) (fun _ _ _ _ _ => (ve_tup (va_cons (ve_ix (ix_anyK K) c_ix (ve_var (pv 4)) ve_int (fun _ _ => rfl)) (va_cons (ve_ix (ix_anyK K) c_ix (ve_var (pv 5)) ve_int (fun _ _ => rfl)) va_nil))))) lift_yes (by decide)) va_nil)) c_tupOf))) lift_yes (by decide))))), enterC2 h ?_⟩
  rintro _ _ Po ⟨b, w, ps, ⟨fb, ok⟩, rfl, rfl, h⟩
  refine ⟨.tuple (ps.map plcD), rfl, by simp; exact sz5000 (by have := ok.n2; omega), fun i acc => acc = ((mvL b ps).take i).map stD, rfl, ?_, ?_⟩
  · rintro i it acc hit rfl
    obtain ⟨p, hp, rfl⟩ := one_at2 hit
    have pm := List.mem_of_getElem? hp
    refine ⟨rfl, stD (mvs b p.1), state_at (ok.st p pm), ?_⟩
    have hl : (pairs (((mvs b p.1).map mvD).map Vl.p) ((p.2.map stpD).map Vl.p)).length = (mvP b p).length := by
      rw [pairs_len, ok.plen pm]
      simp [ok.len p pm]
    have h5 := (fb.ok (ok.st p pm)).few
    refine ⟨by rw [hl, ok.plen pm, ok.len p pm]; exact sz5000 (by omega), fun j acc => acc = ((mvP b p).take j).map mvD, rfl, ?_, ?_⟩
    · rintro j it acc hjt rfl
      obtain ⟨x, y, hx, hy, rfl⟩ := two_at hjt
      obtain ⟨q, hq, rfl⟩ := map2_at hx
      obtain ⟨m, hm, rfl⟩ := map2_at hy
      refine ⟨rfl, _, rfl, _, rfl, _, rfl, ?_⟩
      show _ = _
      have : (mvP b p)[j]? = some (q.1, m.1) := by unfold mvP; rw [List.getElem?_map, zip_at hq hm]; rfl
      rw [take_snoc this, List.map_append]
      rfl
    · rintro acc rfl
      rw [hl, List.take_length]
      refine ⟨_, rfl, ?_⟩
      show _ = _
      have : (mvL b ps)[i]? = some (mvP b p) := by unfold mvL; rw [List.getElem?_map, hp]; rfl
      rw [take_snoc this, List.map_append]
      rfl
  · rintro acc rfl
    rw [ones_len, List.length_map, ← mvL_len (b := b), List.take_length]
    exact h
def sv_lots_of : S2 := fun a c Po _ => ∃ (b : Book) (w : Nat) (ps : List Plc), Valid b w ps ∧ a = .p (bookD b) ∧ c = .p (layD w ps) ∧ Po (.f (.LL (ps.map fun p => .DK (ltK b p))))
theorem sc_lots_of : FnScope ["book", "laying", "state", "moves", "pair", "move"] ["book", "laying"] (defScope s_lots_of) := ⟨rfl, rfl, rfl, by decide +kernel, rfl, by decide +kernel, by decide +kernel⟩
theorem okV_lots_of (T : Tx K mg) : FnOk P w K mg base CX0 1 T.lots_of.f T.lots_of.fd ["book", "laying"] (spC K (sv2 sv_lots_of)) := by
  refine T.lots_of.F.ok sc_lots_of (fun vs H Q E h => spC_len sv2_len h) (fun cdv A outer s H vs Q E hr h => ?_)
  refine ⟨_, (show PSs _ _ (liftS ⟨K, clT T, E⟩ _) from (vs_one (vs_ret (ve_lcM (pe_lc (own := [("state", 2), ("moves", 3)]) rfl sc_lots_of.nd (vi_seq (pi_anyK K (ve_ix (ix_anyK K) c_ix (ve_var (pv 1)) ve_int (fun _ _ => rfl)))) (blkOk_by (own := [("state", 2), ("moves", 3)]) (N := ["book", "laying", "state", "moves", "pair", "move"]) (sc := defScope s_lots_of) (by decide +kernel)) (fun _ _ _ _ _ => (vg_tup (pg_tupK (n := 2) K rfl (vgs_cons (vg_name (pg_name (i := 2) sc_lots_of.nd rfl (.inl rfl))) (vgs_cons (vg_name (pg_name (i := 3) sc_lots_of.nd rfl (.inl rfl))) vgs_nil))))) (fun _ _ _ _ _ => pts_nil) (fun _ _ _ _ _ => (ve_dc (pe_dc (own := [("pair", 4), ("move", 5)]) rfl sc_lots_of.nd (vi_zp (pi_zipBK K (by rfl) T.n_zip (va_cons (ve_ix (ix_anyK K) c_ix (ve_var (pv 0)) (ve_var (pv 2)) (fun _ _ => rfl)) (va_cons (ve_var (pv 3)) va_nil)))) (blkOk_by (own := [("pair", 4), ("move", 5)]) (by kernel_rfl)) (fun _ _ _ _ _ => (vg_tup (pg_tupK (n := 2) K rfl (vgs_cons (vg_name (pg_name (i := 4) sc_lots_of.nd rfl (.inl rfl))) (vgs_cons (vg_name (pg_name (i := 5) sc_lots_of.nd rfl (.inl rfl))) vgs_nil))))) (fun _ _ _ _ _ => pts_nil) (fun _ _ _ _ _ => (ve_ix (ix_anyK K) c_ix (ve_var (pv 4)) ve_int (fun _ _ => rfl))) (fun _ _ _ _ _ => (ve_ix (ix_anyK K) c_ix (ve_var (pv 5)) ve_int (fun _ _ => rfl)))) lift_yes (by decide)))) lift_yes (by decide))))), enterC2 h ?_⟩
  rintro _ _ Po ⟨b, w, ps, ⟨fb, ok⟩, rfl, rfl, h⟩
  refine ⟨.tuple (ps.map plcD), rfl, by simp; exact sz5000 (by have := ok.n2; omega), fun i acc => acc = (ps.take i).map fun p => M.DK (ltK b p), rfl, ?_, ?_⟩
  · rintro i it acc hit rfl
    obtain ⟨p, hp, rfl⟩ := one_at2 hit
    have pm := List.mem_of_getElem? hp
    refine ⟨rfl, stD (mvs b p.1), state_at (ok.st p pm), ?_⟩
    have hl : (pairs (((mvs b p.1).map mvD).map Vl.p) ((p.2.map stpD).map Vl.p)).length = ((mvs b p.1).zip p.2).length := by rw [pairs_len]; simp
    have h5 := (fb.ok (ok.st p pm)).few
    have nd := ok.keys fb pm
    refine ⟨by rw [hl, List.length_zip]; exact sz5000 (by omega), fun j acc => acc = (((mvs b p.1).zip p.2).take j).map fun q => ((kN q.1.1, lotD q.2.2) : Key × D), rfl, ?_, ?_⟩
    · rintro j it acc hjt rfl
      obtain ⟨x, y, hx, hy, rfl⟩ := two_at hjt
      obtain ⟨q, hq, rfl⟩ := map2_at hx
      obtain ⟨m, hm, rfl⟩ := map2_at hy
      have hz := zip_at hq hm
      refine ⟨rfl, .int (q.1 : Int), rfl, lotD m.2, rfl, kN q.1, rfl, ?_⟩
      show _ = _
      rw [take_snoc hz]
      have no : q.1 ∉ (((mvs b p.1).zip p.2).take j).map fun q => q.1.1 := fun z => by
        have := take_snoc hz
        have nd2 : ((((mvs b p.1).zip p.2).take (j + 1)).map fun q => q.1.1).Nodup := nd.sublist ((List.take_sublist _ _).map _)
        rw [this, List.map_append, List.nodup_append] at nd2
        exact nd2.2.2 _ z _ (by simp) rfl
      exact putD_new (g := fun q : (Nat × Nat) × Stp => lotD q.2.2) (key := fun q : (Nat × Nat) × Stp => q.1.1) (q := (q, m)) no
    · rintro acc rfl
      rw [hl, List.take_length]
      show _ = _
      rw [take_snoc hp, List.map_append]
      rfl
  · rintro acc rfl
    rw [ones_len, List.length_map, List.take_length]
    exact h
def Vl.row : Vl → Option (List D)
  | .p (.tuple ds) => some ds
  | .o (.tuple ds) => some ds
  | _ => none
theorem row_cases {a : Vl} {ds : List D} (h : a.row = some ds) : a = .p (.tuple ds) ∨ a = .o (.tuple ds) := by
  unfold Vl.row at h
  split at h <;> first | (cases h; simp; done) | cases h
def sv_places_along : S3 := fun a c r Po _ => ∃ (b : Book) (w : Nat) (ps : List Plc) (ds : List D), Valid b w ps ∧ a = .p (bookD b) ∧ c = .p (layD w ps) ∧ r.row = some ds ∧ rowBad b 0 0 ds = none ∧ ds.length ≤ 20000 ∧ Po (.f (.L (natsD (0 :: (walkL b ps 0 ds).map (·.1)))))
theorem LayOk.p0 {b : Book} {w : Nat} {ps : List Plc} (ok : LayOk b w ps) : ∃ p, ps[0]? = some p ∧ p.1 = 0 := by
  obtain ⟨p, hp⟩ := get_lt (xs := ps) (i := 0) ok.n1
  exact ⟨p, hp, ok.s0 p hp⟩
theorem natsD_snoc {l : List Nat} {n : Nat} : natsD l ++ [.int (n : Int)] = natsD (l ++ [n]) := by
  unfold natsD
  rw [List.map_append]
  rfl
theorem last_at {α : Type} {l : List α} {x : α} : atI (l ++ [x]) (-1) = some x := by
  refine atI_of (j := l.length) ?_ (by simp)
  unfold ixN
  rw [if_neg (by omega), if_pos (by simp; omega), List.length_append, List.length_singleton]
  congr 1
  omega
theorem last_nat {l : List Nat} {n : Nat} : atI (natsD (l ++ [n])) (-1) = some (.int (n : Int)) := by
  rw [← natsD_snoc]
  exact last_at
theorem sc_places_along : FnScope ["book", "laying", "row", "moves", "places", "message", "pairs"] ["book", "laying", "row"] (defScope s_places_along) := ⟨rfl, rfl, rfl, by decide +kernel, rfl, by decide +kernel, by decide +kernel⟩
theorem okV_places_along (T : Tx K mg) : FnOk P w K mg base CX0 2 T.places_along.f T.places_along.fd ["book", "laying", "row"] (spC K (sv3 sv_places_along)) := by
  refine T.places_along.F.ok sc_places_along (fun vs H Q E h => spC_len sv3_len h) (fun cdv A outer s H vs Q E hr h => ?_)
  refine ⟨_, (show PSs _ _ (liftS ⟨K, clT T, E⟩ _) from (vs_cons (vs_setOf (ps_setLc (i := 3) (own := [("pairs", 6)]) rfl sc_places_along.nd rfl rfl (sw_true rfl rfl rfl (by decide +kernel)) (vi_seq (pi_anyK K (ve_call (pe_call (okV_moves_of T) (hr.mono (by decide)) (by rfl) T.moves_of.g T.moves_of.F.kp T.moves_of.b .nil pass0 (va_cons (ve_var (pv 0)) (va_cons (ve_var (pv 1)) va_nil))) (fun _ => .nil)))) (blkOk_by (own := [("pairs", 6)]) (N := ["book", "laying", "row", "moves", "places", "message", "pairs"]) (sc := defScope s_places_along) (by decide +kernel)) (fun _ _ _ _ _ => (vg_name (pg_name (i := 6) sc_places_along.nd rfl (.inl rfl)))) (fun _ _ _ _ _ => pts_nil) (fun _ _ _ _ _ => (ve_cb (pe_callTy (call_dictTK K) (by rfl) T.n_dict (by decide +kernel) (va_cons (ve_var (pv 6)) va_nil)) c_dictT))) (lift_lcM (by decide) lift_yes))
      (vs_cons (vs_set (i := 4) sc_places_along.nd rfl (.inl rfl) (ve_lst (va_cons ve_int va_nil)))
      (vs_cons (vs_for PassesOwn.never rfl (vi_seq (pi_anyK K (ve_var (pv 2)))) (vg_name (pg_name (i := 5) sc_places_along.nd rfl (.inl rfl)))
        (vs_one (vs_append (ps_expr (pe_bmK K PySem.F.plainAttrs_list PySem.F.slot_list_append PySem.F.type_list_append mt_append (pv 4) (pa_cons (ve_dget (hu_of hr) (ve_ix (ix_anyK K) c_ix (ve_var (pv 3)) (ve_ix (ix_anyK K) c_ix (ve_var (pv 4)) (ve_un un_neg c_neg ve_int) (fun _ _ => rfl)) (fun _ _ => rfl)) (ve_var (pv 5)) (fun _ _ => rfl)) pa_nil))))))
      (vs_one (vs_retV (pv 4))))))), enterC3 h ?_⟩
  rintro _ _ r Po ⟨b, w, ps, ds, ⟨fb, ok⟩, rfl, rfl, hr, hb, hl, h⟩
  rcases row_cases hr with rfl | rfl
  · refine ⟨b, w, ps, ⟨fb, ok⟩, rfl, rfl, by simp; exact sz5000 (by rw [mvL_len]; have := ok.n2; omega), fun i acc => acc = ((mvL b ps).take i).map fun s => M.DK (kvD s), rfl, ?_, ?_⟩
    · rintro i it acc hit rfl
      obtain ⟨s, hs, rfl⟩ := one_at2 hit
      refine ⟨kvD s, by rw [← kvD_pr]; rfl, ?_⟩
      show _ = _
      rw [take_snoc hs, List.map_append]
      have : ∃ p, p ∈ ps ∧ s = mvP b p := by
        unfold mvL at hs
        rw [List.getElem?_map] at hs
        obtain ⟨p, hp, rfl⟩ := Option.map_eq_some_iff.mp hs
        exact ⟨p, List.mem_of_getElem? hp, rfl⟩
      obtain ⟨p, pm, rfl⟩ := this
      rw [ok.mkeys fb pm]
      rfl
    rintro acc rfl
    rw [ones_len, List.length_map, List.take_length]
    obtain ⟨p0, hp0, e0⟩ := ok.p0
    refine ⟨fun i ρ => ∃ (k : Nat) (p : Plc) (pre : List Nat) (y5 y6 : Sl), ρ = [.im (bookD b), .im (layD w ps), .im (.tuple ds), .mu (.LL ((mvL b ps).map fun s => M.DK (kvD s))), .mu (.L (natsD (pre ++ [k]))), y5, y6] ∧ ps[k]? = some p ∧ rowBad b p.1 i (ds.drop i) = none ∧ 0 :: (walkL b ps 0 ds).map (·.1) = pre ++ k :: (walkL b ps k (ds.drop i)).map (·.1) ∧ pre.length = i, ⟨0, p0, [], _, _, rfl, hp0, by rw [e0]; exact hb, rfl, rfl⟩, ?_, ?_⟩
    · rintro i it ρ hit ⟨k, p, pre, y5, y6, rfl, hp, hbad, hw, hpl⟩
      obtain ⟨x, hx, rfl⟩ := one_at hit
      have hlt := (List.getElem?_eq_some_iff.mp hx).1
      rw [drop_at hx] at hbad hw
      obtain ⟨m, q, n, rfl, hn, hq, hbad', hwalk⟩ := ok.step hp hbad
      rw [hwalk] at hw
      have hmv : atI ((mvL b ps).map fun s => M.DK (kvD s)) (k : Int) = some (.DK (kvD (mvP b p))) := atI_nat (by unfold mvL; rw [List.getElem?_map, List.getElem?_map, hp]; rfl)
      refine ⟨_, last_nat, .DK (kvD (mvP b p)), hmv, .inl n, .int (m.1 : Int), rfl, by rw [valD_next, next_mvP, hn]; rfl, ?_⟩
      exact ⟨by unfold natsD; rw [List.length_map, List.length_append, hpl]; exact sz5000' (by simp; omega), m.1, q, pre ++ [k], _, _, by rw [← natsD_snoc (l := pre ++ [k])]; rfl, hq, hbad', by rw [hw]; simp, by simp [hpl]⟩
    · rintro ρ ⟨k, p, pre, y5, y6, rfl, hp, hbad, hw, hpl⟩
      rw [ones_len, List.drop_length] at hw
      rw [hw] at h
      exact h
  · refine ⟨b, w, ps, ⟨fb, ok⟩, rfl, rfl, by simp; exact sz5000 (by rw [mvL_len]; have := ok.n2; omega), fun i acc => acc = ((mvL b ps).take i).map fun s => M.DK (kvD s), rfl, ?_, ?_⟩
    · rintro i it acc hit rfl
      obtain ⟨s, hs, rfl⟩ := one_at2 hit
      refine ⟨kvD s, by rw [← kvD_pr]; rfl, ?_⟩
      show _ = _
      rw [take_snoc hs, List.map_append]
      have : ∃ p, p ∈ ps ∧ s = mvP b p := by
        unfold mvL at hs
        rw [List.getElem?_map] at hs
        obtain ⟨p, hp, rfl⟩ := Option.map_eq_some_iff.mp hs
        exact ⟨p, List.mem_of_getElem? hp, rfl⟩
      obtain ⟨p, pm, rfl⟩ := this
      rw [ok.mkeys fb pm]
      rfl
    rintro acc rfl
    rw [ones_len, List.length_map, List.take_length]
    obtain ⟨p0, hp0, e0⟩ := ok.p0
    refine ⟨fun i ρ => ∃ (k : Nat) (p : Plc) (pre : List Nat) (y5 y6 : Sl), ρ = [.im (bookD b), .im (layD w ps), .od (.tuple ds), .mu (.LL ((mvL b ps).map fun s => M.DK (kvD s))), .mu (.L (natsD (pre ++ [k]))), y5, y6] ∧ ps[k]? = some p ∧ rowBad b p.1 i (ds.drop i) = none ∧ 0 :: (walkL b ps 0 ds).map (·.1) = pre ++ k :: (walkL b ps k (ds.drop i)).map (·.1) ∧ pre.length = i, ⟨0, p0, [], _, _, rfl, hp0, by rw [e0]; exact hb, rfl, rfl⟩, ?_, ?_⟩
    · rintro i it ρ hit ⟨k, p, pre, y5, y6, rfl, hp, hbad, hw, hpl⟩
      obtain ⟨x, hx, rfl⟩ := one_at hit
      have hlt := (List.getElem?_eq_some_iff.mp hx).1
      rw [drop_at hx] at hbad hw
      obtain ⟨m, q, n, rfl, hn, hq, hbad', hwalk⟩ := ok.step hp hbad
      rw [hwalk] at hw
      have hmv : atI ((mvL b ps).map fun s => M.DK (kvD s)) (k : Int) = some (.DK (kvD (mvP b p))) := atI_nat (by unfold mvL; rw [List.getElem?_map, List.getElem?_map, hp]; rfl)
      refine ⟨_, last_nat, .DK (kvD (mvP b p)), hmv, .inl n, .int (m.1 : Int), rfl, by rw [valD_next, next_mvP, hn]; rfl, ?_⟩
      exact ⟨by unfold natsD; rw [List.length_map, List.length_append, hpl]; exact sz5000' (by simp; omega), m.1, q, pre ++ [k], _, _, by rw [← natsD_snoc (l := pre ++ [k])]; rfl, hq, hbad', by rw [hw]; simp, by simp [hpl]⟩
    · rintro ρ ⟨k, p, pre, y5, y6, rfl, hp, hbad, hw, hpl⟩
      rw [ones_len, List.drop_length] at hw
      rw [hw] at h
      exact h
theorem LayOk.steps {b : Book} {w : Nat} {ps : List Plc} (ok : LayOk b w ps) : ∀ {ds : List D} {k i : Nat} {p : Plc}, ps[k]? = some p → rowBad b p.1 i ds = none → ∀ (j : Nat) (x : D), ds[j]? = some x → ∃ (c : Nat) (m : Stp) (q : Plc) (n : Nat), (k :: (walkL b ps k ds).map (·.1))[j]? = some c ∧ ps[c]? = some q ∧ x = .int (n : Int) ∧ nextL b q x = some m ∧ (walkL b ps k ds)[j]? = some m
  | [], _, _, _, _, _, j, x, hx => by simp at hx
  | d :: r, k, i, p, hp, hb, j, x, hx => by
    obtain ⟨m, q, n, e, hn, hq, hb', hw⟩ := ok.step hp hb
    rw [hw]
    cases j with
    | zero =>
      cases hx
      exact ⟨k, m, p, n, rfl, hp, e, hn, rfl⟩
    | succ j =>
      obtain ⟨c, m', q', n', h1, h2, h3, h4, h5⟩ := ok.steps hq hb' j x (by simpa using hx)
      exact ⟨c, m', q', n', by simpa using h1, h2, h3, h4, by simpa using h5⟩
def sv_lots_along : S3 := fun a c r Po _ => ∃ (b : Book) (w : Nat) (ps : List Plc) (ds : List D), Valid b w ps ∧ a = .p (bookD b) ∧ c = .p (layD w ps) ∧ r.row = some ds ∧ rowBad b 0 0 ds = none ∧ ds.length ≤ 20000 ∧ Po (.f (.L ((walkL b ps 0 ds).map fun m => lotD m.2)))
theorem sc_lots_along : FnScope ["book", "laying", "row", "lots", "place", "message"] ["book", "laying", "row"] (defScope s_lots_along) := ⟨rfl, rfl, rfl, by decide +kernel, rfl, by decide +kernel, by decide +kernel⟩
theorem okV_lots_along (T : Tx K mg) : FnOk P w K mg base CX0 3 T.lots_along.f T.lots_along.fd ["book", "laying", "row"] (spC K (sv3 sv_lots_along)) := by
  refine T.lots_along.F.ok sc_lots_along (fun vs H Q E h => spC_len sv3_len h) (fun cdv A outer s H vs Q E hr h => ?_)
  refine ⟨_, (show PSs _ _ (liftS ⟨K, clT T, E⟩ _) from (vs_cons (vs_set (i := 3) sc_lots_along.nd rfl (.inr rfl) (ve_call (pe_call (okV_lots_of T) (hr.mono (by decide)) (by rfl) T.lots_of.g T.lots_of.F.kp T.lots_of.b .nil pass0 (va_cons (ve_var (pv 0)) (va_cons (ve_var (pv 1)) va_nil))) (fun _ => .nil)))
      (vs_one (vs_ret (ve_lc (pe_lc (own := [("place", 4), ("message", 5)]) rfl sc_lots_along.nd (vi_zp (pi_zipBK K (by rfl) T.n_zip (va_cons (ve_call (pe_call (okV_places_along T) (hr.mono (by decide)) (by rfl) T.places_along.g T.places_along.F.kp T.places_along.b .nil pass0 (va_cons (ve_var (pv 0)) (va_cons (ve_var (pv 1)) (va_cons (ve_var (pv 2)) va_nil)))) (fun _ => .nil)) (va_cons (ve_var (pv 2)) va_nil)))) (blkOk_by (own := [("place", 4), ("message", 5)]) (N := ["book", "laying", "row", "lots", "place", "message"]) (sc := defScope s_lots_along) (by decide +kernel)) (fun _ _ _ _ _ => (vg_tup (pg_tupK (n := 2) K rfl (vgs_cons (vg_name (pg_name (i := 4) sc_lots_along.nd rfl (.inl rfl))) (vgs_cons (vg_name (pg_name (i := 5) sc_lots_along.nd rfl (.inl rfl))) vgs_nil))))) (fun _ _ _ _ _ => pts_nil) (fun _ _ _ _ _ => (ve_dget (hu_of hr) (ve_ix (ix_anyK K) c_ix (ve_var (pv 3)) (ve_var (pv 4)) (fun _ _ => rfl)) (ve_var (pv 5)) (fun _ _ => rfl)))) lift_yes (by decide)))))), enterC3 h ?_⟩
  rintro _ _ r Po ⟨b, w, ps, ds, ⟨fb, ok⟩, rfl, rfl, hr, hb, hl, h⟩
  obtain ⟨p0, hp0, e0⟩ := ok.p0
  have hb0 : rowBad b p0.1 0 ds = none := by rw [e0]; exact hb
  have wl := (ok.walk hp0 hb0).1
  rcases row_cases hr with rfl | rfl
  · refine ⟨b, w, ps, ⟨fb, ok⟩, rfl, rfl, ?_⟩
    refine ⟨b, w, ps, ds, ⟨fb, ok⟩, rfl, rfl, rfl, hb, hl, ?_⟩
    have e : (pairs ((natsD (0 :: (walkL b ps 0 ds).map (·.1))).map Vl.p) (ds.map .p)).length = (walkL b ps 0 ds).length := by rw [pairs_len]; unfold natsD; simp [wl]
    refine ⟨by rw [e, wl]; exact sz5000' (by omega), fun i acc => acc = ((walkL b ps 0 ds).take i).map fun m => lotD m.2, rfl, ?_, ?_⟩
    · rintro i it acc hit rfl
      obtain ⟨x, y, hx, hy, rfl⟩ := two_at hit
      obtain ⟨c', hc', rfl⟩ := map2_at hx
      rw [List.getElem?_map] at hy
      obtain ⟨d, hd, rfl⟩ := Option.map_eq_some_iff.mp hy
      obtain ⟨c, m, q, n, h1, h2, rfl, h4, h5⟩ := ok.steps hp0 hb0 i d hd
      rw [h1] at hc'
      cases hc'
      have hmv : atI (ps.map fun p => M.DK (ltK b p)) (c' : Int) = some (.DK (ltK b q)) := atI_nat (by rw [List.getElem?_map, h2]; rfl)
      refine ⟨rfl, .DK (ltK b q), hmv, .inl n, lotD m.2, rfl, by rw [valD_lot, h4]; rfl, _, rfl, ?_⟩
      show _ = _
      rw [take_snoc h5, List.map_append]
      rfl
    · rintro acc rfl
      rw [e, List.take_length]
      exact h
  · refine ⟨b, w, ps, ⟨fb, ok⟩, rfl, rfl, ?_⟩
    refine ⟨b, w, ps, ds, ⟨fb, ok⟩, rfl, rfl, rfl, hb, hl, ?_⟩
    have e : (pairs ((natsD (0 :: (walkL b ps 0 ds).map (·.1))).map Vl.p) (ds.map .o)).length = (walkL b ps 0 ds).length := by rw [pairs_len]; unfold natsD; simp [wl]
    refine ⟨by rw [e, wl]; exact sz5000' (by omega), fun i acc => acc = ((walkL b ps 0 ds).take i).map fun m => lotD m.2, rfl, ?_, ?_⟩
    · rintro i it acc hit rfl
      obtain ⟨x, y, hx, hy, rfl⟩ := two_at hit
      obtain ⟨c', hc', rfl⟩ := map2_at hx
      rw [List.getElem?_map] at hy
      obtain ⟨d, hd, rfl⟩ := Option.map_eq_some_iff.mp hy
      obtain ⟨c, m, q, n, h1, h2, rfl, h4, h5⟩ := ok.steps hp0 hb0 i d hd
      rw [h1] at hc'
      cases hc'
      have hmv : atI (ps.map fun p => M.DK (ltK b p)) (c' : Int) = some (.DK (ltK b q)) := atI_nat (by rw [List.getElem?_map, h2]; rfl)
      refine ⟨rfl, .DK (ltK b q), hmv, .inl n, lotD m.2, rfl, by rw [valD_lot, h4]; rfl, _, rfl, ?_⟩
      show _ = _
      rw [take_snoc h5, List.map_append]
      rfl
    · rintro acc rfl
      rw [e, List.take_length]
      exact h
theorem sumL_len {w : Nat} : ∀ {ls : List Lot} {l0 : Lot}, (∀ l ∈ ls, l.length = w) → l0.length = w → (ls.foldl addL l0).length = w
  | [], _, _, h0 => h0
  | l :: r, l0, h, h0 => sumL_len (ls := r) (l0 := addL l0 l) (fun m hm => h m (List.mem_cons_of_mem _ hm)) (addL_len h0 (h l (by simp)))
def sv_total_of : S2 := fun a c Po _ => ∃ (w : Nat) (ls : List Lot), a = .p (.int (w : Int)) ∧ c = .k (.L (ls.map lotD)) ∧ w ≤ 1000 ∧ (∀ l ∈ ls, l.length = w) ∧ Po (.p (lotD (sumL w ls)))
theorem sc_total_of : FnScope ["wires", "lots", "total", "lot"] ["wires", "lots"] (defScope s_total_of) := ⟨rfl, rfl, rfl, by decide +kernel, rfl, by decide +kernel, by decide +kernel⟩
theorem okV_total_of (T : Tx K mg) : FnOk P w K mg base CX0 2 T.total_of.f T.total_of.fd ["wires", "lots"] (spC K (sv2 sv_total_of)) := by
  refine T.total_of.F.ok sc_total_of (fun vs H Q E h => spC_len sv2_len h) (fun cdv A outer s H vs Q E hr h => ?_)
  refine ⟨_, (show PSs _ _ (liftS ⟨K, clT T, E⟩ _) from (vs_cons (vs_set (i := 2) sc_total_of.nd rfl (.inl rfl) (ve_op (op_repAZK K) c_repT (ve_tup (va_cons ve_int va_nil)) (ve_var (pv 0))))
      (vs_cons (vs_fz 1 (vs_for PassesOwn.never rfl (vi_seq (pi_anyK K (ve_var (pv 1)))) (vg_name (pg_name (i := 3) sc_total_of.nd rfl (.inl rfl)))
        (vs_one (vs_set (i := 2) sc_total_of.nd rfl (.inl rfl) (ve_call (pe_call (okV_sum_of T) (hr.mono (by decide)) (by rfl) T.sum_of.g T.sum_of.F.kp T.sum_of.b .nil pass0 (va_cons (ve_var (pv 2)) (va_cons (ve_var (pv 3)) va_nil))) (fun _ => .nil))))))
      (vs_one (vs_ret (ve_var (pv 2))))))), enterC2 h ?_⟩
  rintro _ _ Po ⟨w, ls, rfl, rfl, hw, hl, h⟩
  refine ⟨⟨by omega, by omega, by simp; omega⟩, ?_⟩
  have e0 : ((List.replicate (w : Int).toNat [(.int 0 : D)]).flatten) = (List.replicate w (0 : Int)).map PyData.int := by rw [Int.toNat_natCast]; simp
  refine ⟨fun i ρ => ∃ y3, ρ = [.im (.int (w : Int)), .rd (.L (ls.map lotD)), .im (lotD (sumL w (ls.take i))), y3], ⟨_, (by show [_, _, Sl.im (.tuple (List.replicate (w : Int).toNat [(.int 0 : D)]).flatten), _] = _; rw [e0]; rfl)⟩, ?_, ?_⟩
  · rintro i it ρ hit ⟨y3, rfl⟩
    obtain ⟨l, hx, rfl⟩ := one_at2 hit
    refine ⟨sumL w (ls.take i), l, rfl, rfl, by unfold sumL; rw [sumL_len (fun l h => hl l (List.mem_of_mem_take h)) (List.length_replicate ..)]; exact hw, ?_⟩
    have es : sumL w (ls.take (i + 1)) = addL (sumL w (ls.take i)) l := by
      rw [take_snoc hx]
      unfold sumL
      rw [List.foldl_append]
      rfl
    exact ⟨_, by rw [es]; rfl⟩
  · rintro ρ ⟨y3, rfl⟩
    rw [ones_len, List.length_map, List.take_length]
    exact h
def sv_place_at : S3 := fun a c r Po Ex => ∃ (b : Book) (w : Nat) (ps : List Plc) (d : D), OkB b ∧ LayOk b w ps ∧ a = .p (bookD b) ∧ c = .p (layD w ps) ∧ r.any = some d ∧ (∀ e, rowErr b d = some e → Ex "BadRow" (.int e)) ∧ ∀ ds, d = .tuple ds → rowBad b 0 0 ds = none → ds.length ≤ 20000 → Po (.p (.int (((0 :: (walkL b ps 0 ds).map (·.1)).getLast (by simp) : Nat) : Int)))
def sv_lot_of : S3 := fun a c r Po Ex => ∃ (b : Book) (w : Nat) (ps : List Plc) (d : D), OkB b ∧ LayOk b w ps ∧ a = .p (bookD b) ∧ c = .p (layD w ps) ∧ r.any = some d ∧ (∀ e, rowErr b d = some e → Ex "BadRow" (.int e)) ∧ ∀ ds, d = .tuple ds → rowBad b 0 0 ds = none → ds.length ≤ 20000 → Po (.p (lotD (sumL w ((walkL b ps 0 ds).map (·.2)))))
theorem sc_place_at : FnScope ["book", "laying", "row"] ["book", "laying", "row"] (defScope s_place_at) := ⟨rfl, rfl, rfl, by decide +kernel, rfl, by decide +kernel, by decide +kernel⟩
theorem okX_place_at (T : Tx K mg) : FnOk P w K mg base (L2.CX P w) 8 T.place_at.f T.place_at.fd ["book", "laying", "row"] (spV K (clT T) (sv3 sv_place_at)) := by
  refine T.place_at.F.okX sc_place_at (fun vs H Q E h => spV_len sv3_len h) (fun cdv A outer s H vs Q E hr h => ?_)
  refine ⟨_, (show PSs _ _ (liftS ⟨K, clT T, E⟩ _) from (vs_cons (vs_expr (ve_call (pe_call (okV_made_laying T) (hr.mono (by decide)) (by rfl) T.made_laying.g T.made_laying.F.kp T.made_laying.b .nil pass0 (va_cons (ve_var (pv 0)) (va_cons (ve_var (pv 1)) va_nil))) (fun _ => .nil)))
      (vs_cons (vs_expr (ve_callX (pe_call (okX_states_along T) (hr.mono (by decide)) (by rfl) T.states_along.g T.states_along.F.kp T.states_along.b .nil (passes_call (takes_of rfl rfl rfl rfl) (fun _ _ _ _ h => h)) (va_cons (ve_var (pv 0)) (va_cons (ve_var (pv 2)) va_nil))) (fun _ => .nil)))
      (PSs.nox (vs_one (vs_ret (ve_ix (ix_anyK K) c_ix (ve_call (pe_call (okV_places_along T) (hr.mono (by decide)) (by rfl) T.places_along.g T.places_along.F.kp T.places_along.b .nil pass0 (va_cons (ve_var (pv 0)) (va_cons (ve_var (pv 1)) (va_cons (ve_var (pv 2)) va_nil)))) (fun _ => .nil)) (ve_un un_neg c_neg ve_int) (fun _ _ => rfl)))))))), enter3 h ?_⟩
  rintro _ _ r Po Ex ⟨b, w, ps, d, okb, ok, rfl, rfl, hr, hx, hk⟩
  have fb := okb.toFormB
  rcases any_cases hr with rfl | rfl | ⟨ds, rfl, rfl⟩
  rotate_left 2
  · refine ⟨b, w, ps, okb, ok, rfl, rfl, ?_⟩
    exact ⟨b, _, rfl, fb, rfl, hx, fun ds z => (by cases z)⟩
  · refine ⟨b, w, ps, okb, ok, rfl, rfl, ?_⟩
    refine ⟨b, d, rfl, fb, rfl, hx, fun ds e hl hb => ?_⟩
    subst e
    refine ⟨b, w, ps, ds, ⟨fb, ok⟩, rfl, rfl, rfl, hb, hl, ?_⟩
    have e : 0 :: (walkL b ps 0 ds).map (·.1) = (0 :: (walkL b ps 0 ds).map (·.1)).dropLast ++ [(0 :: (walkL b ps 0 ds).map (·.1)).getLast (by simp)] := (List.dropLast_concat_getLast _).symm
    rw [e]
    exact ⟨_, last_nat, hk ds rfl hb hl⟩
  · refine ⟨b, w, ps, okb, ok, rfl, rfl, ?_⟩
    refine ⟨b, d, rfl, fb, rfl, hx, fun ds e hl hb => ?_⟩
    subst e
    refine ⟨b, w, ps, ds, ⟨fb, ok⟩, rfl, rfl, rfl, hb, hl, ?_⟩
    have e : 0 :: (walkL b ps 0 ds).map (·.1) = (0 :: (walkL b ps 0 ds).map (·.1)).dropLast ++ [(0 :: (walkL b ps 0 ds).map (·.1)).getLast (by simp)] := (List.dropLast_concat_getLast _).symm
    rw [e]
    exact ⟨_, last_nat, hk ds rfl hb hl⟩
theorem sc_lot_of : FnScope ["book", "laying", "row"] ["book", "laying", "row"] (defScope s_lot_of) := ⟨rfl, rfl, rfl, by decide +kernel, rfl, by decide +kernel, by decide +kernel⟩
theorem okX_lot_of (T : Tx K mg) : FnOk P w K mg base (L2.CX P w) 8 T.lot_of.f T.lot_of.fd ["book", "laying", "row"] (spV K (clT T) (sv3 sv_lot_of)) := by
  refine T.lot_of.F.okX sc_lot_of (fun vs H Q E h => spV_len sv3_len h) (fun cdv A outer s H vs Q E hr h => ?_)
  refine ⟨_, (show PSs _ _ (liftS ⟨K, clT T, E⟩ _) from (vs_cons (vs_expr (ve_call (pe_call (okV_made_laying T) (hr.mono (by decide)) (by rfl) T.made_laying.g T.made_laying.F.kp T.made_laying.b .nil pass0 (va_cons (ve_var (pv 0)) (va_cons (ve_var (pv 1)) va_nil))) (fun _ => .nil)))
      (vs_cons (vs_expr (ve_callX (pe_call (okX_states_along T) (hr.mono (by decide)) (by rfl) T.states_along.g T.states_along.F.kp T.states_along.b .nil (passes_call (takes_of rfl rfl rfl rfl) (fun _ _ _ _ h => h)) (va_cons (ve_var (pv 0)) (va_cons (ve_var (pv 2)) va_nil))) (fun _ => .nil)))
      (PSs.nox (vs_one (vs_ret (ve_call (pe_call (okV_total_of T) (hr.mono (by decide)) (by rfl) T.total_of.g T.total_of.F.kp T.total_of.b .nil pass0 (va_cons (ve_ix (ix_anyK K) c_ix (ve_var (pv 1)) ve_int (fun _ _ => rfl)) (va_cons (ve_call (pe_call (okV_lots_along T) (hr.mono (by decide)) (by rfl) T.lots_along.g T.lots_along.F.kp T.lots_along.b .nil pass0 (va_cons (ve_var (pv 0)) (va_cons (ve_var (pv 1)) (va_cons (ve_var (pv 2)) va_nil)))) (fun _ => .nil)) va_nil))) (fun _ => .nil)))))))), enter3 h ?_⟩
  rintro _ _ r Po Ex ⟨b, w, ps, d, okb, ok, rfl, rfl, hr, hx, hk⟩
  have fb := okb.toFormB
  rcases any_cases hr with rfl | rfl | ⟨ds, rfl, rfl⟩
  rotate_left 2
  · refine ⟨b, w, ps, okb, ok, rfl, rfl, ?_⟩
    exact ⟨b, _, rfl, fb, rfl, hx, fun ds z => (by cases z)⟩
  · refine ⟨b, w, ps, okb, ok, rfl, rfl, ?_⟩
    refine ⟨b, d, rfl, fb, rfl, hx, fun ds e hl hb => ?_⟩
    subst e
    refine ⟨_, rfl, b, w, ps, ds, ⟨fb, ok⟩, rfl, rfl, rfl, hb, hl, ?_⟩
    obtain ⟨p0, hp0, e0⟩ := ok.p0
    have wk := (ok.walk hp0 (by rw [e0]; exact hb)).2
    have e : (walkL b ps 0 ds).map (fun m => lotD m.2) = ((walkL b ps 0 ds).map (·.2)).map lotD := by rw [List.map_map]; rfl
    rw [e]
    refine ⟨w, (walkL b ps 0 ds).map (·.2), rfl, rfl, by have := ok.w6; omega, fun l hl => ?_, hk ds rfl hb ‹_›⟩
    obtain ⟨m, hm, rfl⟩ := List.mem_map.mp hl
    exact (wk m hm).1.1
  · refine ⟨b, w, ps, okb, ok, rfl, rfl, ?_⟩
    refine ⟨b, d, rfl, fb, rfl, hx, fun ds e hl hb => ?_⟩
    subst e
    refine ⟨_, rfl, b, w, ps, ds, ⟨fb, ok⟩, rfl, rfl, rfl, hb, hl, ?_⟩
    obtain ⟨p0, hp0, e0⟩ := ok.p0
    have wk := (ok.walk hp0 (by rw [e0]; exact hb)).2
    have e : (walkL b ps 0 ds).map (fun m => lotD m.2) = ((walkL b ps 0 ds).map (·.2)).map lotD := by rw [List.map_map]; rfl
    rw [e]
    refine ⟨w, (walkL b ps 0 ds).map (·.2), rfl, rfl, by have := ok.w6; omega, fun l hl => ?_, hk ds rfl hb ‹_›⟩
    obtain ⟨m, hm, rfl⟩ := List.mem_map.mp hl
    exact (wk m hm).1.1
end
end Nv
set_option maxHeartbeats 2000000
set_option pp.maxSteps 2500
set_option Elab.async false
set_option linter.all false
set_option maxRecDepth 100000
namespace Nv
open PySem PySem.Spec PyProof.Rows L2
section
variable {P : Program} {w : World} {K : PySem.W.Frag} {mg : Str → Option Value} {base : Heap}
/-! ### what is met -/
def metD (b : Book) (st : Nat) : D := .tuple ((ordR b st).map fun q => .tuple [rwD q.2, .int (q.1 : Int)])
def sv_met : S2 := fun a c Po _ => ∃ (b : Book) (w : Nat) (ps : List Plc), OkB b ∧ LayOk b w ps ∧ a = .p (bookD b) ∧ c = .p (layD w ps) ∧ Po (.p (metD (mvL b ps) 0))
theorem ordR_len {b : Book} {st : Nat} (hst : st < b.length) (hb : ∀ s, ∀ p ∈ mvs b s, p.2 < b.length) : (ordR b st).length ≤ b.length := (stR_ok hst hb b.length).len
theorem item_at {α : Type} {key : α → Nat} {g : α → D} {l : List α} {i : Nat} {it : Iv} (h : (itemI (l.map fun q => ((kN (key q), g q) : Key × D)))[i]? = some it) : ∃ q, l[i]? = some q ∧ it = .two (.p (.int (key q : Int))) (.p (g q)) := by
  unfold itemI at h
  rw [List.map_map, List.getElem?_map] at h
  obtain ⟨x, hx, rfl⟩ := Option.map_eq_some_iff.mp h
  exact ⟨x, hx, rfl⟩
theorem key_at {α : Type} {key : α → Nat} {g : α → D} {l : List α} {i : Nat} {it : Iv} (h : (keyI (l.map fun q => ((kN (key q), g q) : Key × D)))[i]? = some it) : ∃ q, l[i]? = some q ∧ it = .one (.p (.int (key q : Int))) := by
  unfold keyI at h
  rw [List.map_map, List.getElem?_map] at h
  obtain ⟨x, hx, rfl⟩ := Option.map_eq_some_iff.mp h
  exact ⟨x, hx, rfl⟩
theorem item_len {kvs : List (Key × D)} : (itemI kvs).length = kvs.length := by simp [itemI]
theorem key_len {kvs : List (Key × D)} : (keyI kvs).length = kvs.length := by simp [keyI]
/-- first_rows of a laying's places -/
theorem LayOk.rows {b : Book} {w : Nat} {ps : List Plc} (ok : LayOk b w ps) : 0 < (mvL b ps).length ∧ (∀ s, ∀ p ∈ mvs (mvL b ps) s, p.2 < (mvL b ps).length) ∧ (mvL b ps).length ≤ 5000 := ⟨by rw [mvL_len]; exact ok.n1, ok.mvlt, by rw [mvL_len]; have := ok.n2; omega⟩
theorem sc_met : FnScope ["book", "laying", "rows", "place", "row"] ["book", "laying"] (defScope s_met) := ⟨rfl, rfl, rfl, by decide +kernel, rfl, by decide +kernel, by decide +kernel⟩
theorem okV_met (T : Tx K mg) : FnOk P w K mg base CX0 8 T.met.f T.met.fd ["book", "laying"] (spC K (sv2 sv_met)) := by
  refine T.met.F.ok sc_met (fun vs H Q E h => spC_len sv2_len h) (fun cdv A outer s H vs Q E hr h => ?_)
  refine ⟨_, (show PSs _ _ (liftS ⟨K, clT T, E⟩ _) from (vs_cons (vs_expr (ve_call (pe_call (okV_made_laying T) (hr.mono (by decide)) (by rfl) T.made_laying.g T.made_laying.F.kp T.made_laying.b .nil pass0 (va_cons (ve_var (pv 0)) (va_cons (ve_var (pv 1)) va_nil))) (fun _ => .nil)))
      (vs_cons (vs_set (i := 2) sc_met.nd rfl (.inl rfl) (ve_call (pe_call (okV_first_rows T) (hr.mono (by decide)) (by rfl) T.first_rows.g T.first_rows.F.kp T.first_rows.bD.choose_spec.2 T.first_rows.bD.choose_spec.1 pass0 (va_cons (ve_call (pe_call (okV_moves_of T) (hr.mono (by decide)) (by rfl) T.moves_of.g T.moves_of.F.kp T.moves_of.b .nil pass0 (va_cons (ve_var (pv 0)) (va_cons (ve_var (pv 1)) va_nil))) (fun _ => .nil)) va_nil)) (fun _ => .cons (.int _) .nil)))
      (vs_one (vs_lk 2 (vs_ret (ve_cb (pe_callTy (call_tupZK K) (by rfl) T.n_tuple (by decide +kernel) (va_cons (ve_lc (pe_lc (own := [("place", 3), ("row", 4)]) rfl sc_met.nd (vi_items (ve_var (pv 2))) (blkOk_by (own := [("place", 3), ("row", 4)]) (N := ["book", "laying", "rows", "place", "row"]) (sc := defScope s_met) (by decide +kernel)) (fun _ _ _ _ _ => (vg_tup (pg_tupK (n := 2) K rfl (vgs_cons (vg_name (pg_name (i := 3) sc_met.nd rfl (.inl rfl))) (vgs_cons (vg_name (pg_name (i := 4) sc_met.nd rfl (.inl rfl))) vgs_nil))))) (fun _ _ _ _ _ => pts_nil) (fun _ _ _ _ _ => (ve_tup (va_cons (ve_var (pv 4)) (va_cons (ve_var (pv 3)) va_nil))))) lift_yes (by decide)) va_nil)) c_tupOf))))))), enterC2 h ?_⟩
  rintro _ _ Po ⟨b, w, ps, okb, ok, rfl, rfl, h⟩
  obtain ⟨r1, r2, r3⟩ := ok.rows
  refine ⟨b, w, ps, okb, ok, rfl, rfl, ?_⟩
  refine ⟨b, w, ps, ⟨okb.toFormB, ok⟩, rfl, rfl, ?_⟩
  refine ⟨mvL b ps, 0, rfl, rfl, r1, r2, r3, ?_⟩
  have hl := ordR_len r1 r2
  refine ⟨by rw [item_len, frK_len]; exact sz5000 (by omega), fun i acc => acc = ((ordR (mvL b ps) 0).take i).map fun q => .tuple [rwD q.2, .int (q.1 : Int)], rfl, ?_, ?_⟩
  · rintro i it acc hit rfl
    obtain ⟨q, hq, rfl⟩ := item_at (key := fun q : Nat × Row => q.1) (g := fun q : Nat × Row => rwD q.2) hit
    refine ⟨rfl, _, rfl, ?_⟩
    show _ = _
    rw [take_snoc hq, List.map_append]
    rfl
  · rintro acc rfl
    rw [item_len, frK_len, List.take_length]
    exact h
def numD (F : List Nat) : List (Key × D) := F.zipIdx.map fun q => (kN q.1, .int (q.2 : Int))
theorem enum_at {l : List Nat} {i : Nat} {it : Iv} (h : (enums ((natsD l).map Vl.p))[i]? = some it) : ∃ s, l[i]? = some s ∧ it = .two (.p (.int (i : Int))) (.p (.int (s : Int))) := by
  unfold enums natsD at h
  rw [List.getElem?_map, List.getElem?_zipIdx, List.map_map, List.getElem?_map] at h
  cases e : l[i]? with
  | none => rw [e] at h; cases h
  | some s => rw [e] at h; cases h; exact ⟨s, rfl, by simp⟩
theorem nat_at {l : List Nat} {i : Nat} {it : Iv} (h : (((natsD l).map Vl.p).map Iv.one)[i]? = some it) : ∃ s, l[i]? = some s ∧ it = .one (.p (.int (s : Int))) := by
  unfold natsD at h
  obtain ⟨x, hx, rfl⟩ := one_at2 h
  exact ⟨x, hx, rfl⟩
theorem natsD_len {l : List Nat} : (natsD l).length = l.length := by simp [natsD]
theorem numD_keys {F : List Nat} : F.zipIdx.map (fun q => q.1) = F := by rw [List.zipIdx_map_fst]
theorem numD_snoc {F : List Nat} {s : Nat} (h : s ∉ F) : numD (F ++ [s]) = putD (numD F) (kN s) (.int (F.length : Int)) := by
  have := putD_new (g := fun q : Nat × Nat => (.int (q.2 : Int) : D)) (key := fun q : Nat × Nat => q.1) (L := F.zipIdx) (q := (s, F.length)) (by rw [numD_keys]; exact h)
  unfold numD
  rw [this, List.zipIdx_append]
  simp
theorem numD_val {F : List Nat} (nd : F.Nodup) {s : Nat} (h : s ∈ F) : valD (numD F) (kN s) = some (.int (F.idxOf s : Nat)) := by
  have hi := List.idxOf_lt_length_of_mem h
  have hm : (s, F.idxOf s) ∈ F.zipIdx := List.mem_of_getElem? (i := F.idxOf s) (by rw [List.getElem?_zipIdx, List.getElem?_eq_getElem hi, List.getElem_idxOf]; simp)
  exact valD_some (g := fun q : Nat × Nat => (.int (q.2 : Int) : D)) (key := fun q : Nat × Nat => q.1) (L := F.zipIdx) (by rw [numD_keys]; exact nd) (q := (s, F.idxOf s)) hm
def sv_by_meeting : S1 := fun a Po _ => ∃ b : Book, a.sq = some (b.map stD) ∧ 0 < b.length ∧ (∀ s, ∀ p ∈ mvs b s, p.2 < b.length) ∧ b.length ≤ 5000 ∧ (∀ s, (mvs b s).length ≤ 1000) ∧ Po (.p (.tuple ((rename b (ordB b)).map stD)))
theorem sc_by_meeting : FnScope ["states", "order", "number", "k", "state", "message", "to"] ["states"] (defScope s_by_meeting) := ⟨rfl, rfl, rfl, by decide +kernel, rfl, by decide +kernel, by decide +kernel⟩
theorem okV_by_meeting (T : Tx K mg) : FnOk P w K mg base CX0 2 T.by_meeting.f T.by_meeting.fd ["states"] (spC K (sv1 sv_by_meeting)) := by
  refine T.by_meeting.F.ok sc_by_meeting (fun vs H Q E h => spC_len sv1_len h) (fun cdv A outer s H vs Q E hr h => ?_)
  refine ⟨_, (show PSs _ _ (liftS ⟨K, clT T, E⟩ _) from (vs_cons (vs_set (i := 1) sc_by_meeting.nd rfl (.inl rfl) (ve_cb (pe_callTy (call_list_dK rfl) (by rfl) T.n_list (by decide +kernel) (va_cons (ve_call (pe_call (okV_first_rows T) (hr.mono (by decide)) (by rfl) T.first_rows.g T.first_rows.F.kp T.first_rows.bD.choose_spec.2 T.first_rows.bD.choose_spec.1 pass0 (va_cons (ve_var (pv 0)) va_nil)) (fun _ => .cons (.int _) .nil)) va_nil)) c_listD))
      (vs_cons (vs_set (i := 2) sc_by_meeting.nd rfl (.inr rfl) (ve_fz 1 (ve_dc (pe_dc (own := [("k", 3), ("state", 4)]) rfl sc_by_meeting.nd (vi_enumL (pi_enumK K (by rfl) T.n_enumerate (va_cons (ve_var (pv 1)) va_nil))) (blkOk_by (own := [("k", 3), ("state", 4)]) (N := ["states", "order", "number", "k", "state", "message", "to"]) (sc := defScope s_by_meeting) (by decide +kernel)) (fun _ _ _ _ _ => (vg_tup (pg_tupK (n := 2) K rfl (vgs_cons (vg_name (pg_name (i := 3) sc_by_meeting.nd rfl (.inl rfl))) (vgs_cons (vg_name (pg_name (i := 4) sc_by_meeting.nd rfl (.inl rfl))) vgs_nil))))) (fun _ _ _ _ _ => pts_nil) (fun _ _ _ _ _ => (ve_var (pv 4))) (fun _ _ _ _ _ => (ve_var (pv 3)))) lift_yes (by decide))))
      (vs_one (vs_ret (ve_cb (pe_callTy (call_tupZK K) (by rfl) T.n_tuple (by decide +kernel) (va_cons (ve_fz 1 (ve_lc (pe_lc (own := [("state", 4)]) rfl sc_by_meeting.nd (vi_seq (pi_anyK K (ve_var (pv 1)))) (blkOk_by (own := [("state", 4)]) (N := ["states", "order", "number", "k", "state", "message", "to"]) (sc := defScope s_by_meeting) (by decide +kernel)) (fun _ _ _ _ _ => (vg_name (pg_name (i := 4) sc_by_meeting.nd rfl (.inl rfl)))) (fun _ _ _ _ _ => pts_nil) (fun _ _ _ _ _ => (ve_cb (pe_callTy (call_tupZK K) (by rfl) T.n_tuple (by decide +kernel) (va_cons (ve_fz 0 (ve_lc (pe_lc (own := [("message", 5), ("to", 6)]) rfl sc_by_meeting.nd (vi_seq (pi_anyK K (ve_ix (ix_anyK K) c_ix (ve_var (pv 0)) (ve_var (pv 4)) (fun _ _ => rfl)))) (blkOk_by (own := [("message", 5), ("to", 6)]) (by kernel_rfl)) (fun _ _ _ _ _ => (vg_tup (pg_tupK (n := 2) K rfl (vgs_cons (vg_name (pg_name (i := 5) sc_by_meeting.nd rfl (.inl rfl))) (vgs_cons (vg_name (pg_name (i := 6) sc_by_meeting.nd rfl (.inl rfl))) vgs_nil))))) (fun _ _ _ _ _ => pts_nil) (fun _ _ _ _ _ => (ve_tup (va_cons (ve_var (pv 5)) (va_cons (ve_dget (hu_of hr) (ve_var (pv 2)) (ve_var (pv 6)) (fun _ _ => rfl)) va_nil))))) lift_yes (by decide))) va_nil)) c_tupOf))) lift_yes (by decide))) va_nil)) c_tupOf)))))), enterC1 h ?_⟩
  rintro a Po ⟨b, ha, h0, hb, h5, hm, h⟩
  have hl := ordR_len h0 hb
  have ok := stR_ok h0 hb b.length
  have ek : (ordR b 0).map (fun q => kD (kN q.1)) = natsD (ordB b) := by
    rw [← ordR_keys]
    unfold natsD
    rw [List.map_map]
    rfl
  have hn : (ordB b).length = (ordR b 0).length := by rw [← ordR_keys, List.length_map]
  have nd : (ordB b).Nodup := by rw [← ordR_keys]; exact ok.nd
  have lt : ∀ s ∈ ordB b, s < b.length := fun s hs => by
    rw [← ordR_keys] at hs
    obtain ⟨q, hq, rfl⟩ := List.mem_map.mp hs
    exact ok.lt q hq
  rcases sq_cases ha with rfl | rfl | rfl
  · refine ⟨b, 0, rfl, rfl, h0, hb, h5, ?_⟩
    have e1 : (frK (ordR b 0)).map (fun kv => kD kv.1) = natsD (ordB b) := by unfold frK; rw [List.map_map]; exact ek
    refine ⟨by simp [enums, frK_len]; exact sz5000 (by omega), fun i acc => acc = numD ((ordB b).take i), rfl, ?_, ?_⟩
    · rintro i it acc hit rfl
      obtain ⟨s, hs, rfl⟩ := enum_at (l := ordB b) (by rw [← e1]; exact hit)
      have no : s ∉ ((ordB b).take i) := fun z => by
        have := take_snoc hs
        have nd2 : ((ordB b).take (i + 1)).Nodup := nd.sublist (List.take_sublist _ _)
        rw [this, List.nodup_append] at nd2
        exact nd2.2.2 _ z _ (by simp) rfl
      refine ⟨rfl, kN s, rfl, ?_⟩
      show _ = _
      rw [take_snoc hs, numD_snoc no]
      have : ((ordB b).take i).length = i := by rw [List.length_take]; have := (List.getElem?_eq_some_iff.mp hs).1; omega
      rw [this]
    rintro acc rfl
    have el : (enums (((frK (ordR b 0)).map fun kv => kD kv.1).map Vl.p)).length = (ordB b).length := by rw [e1]; simp [enums, natsD]
    rw [el, List.take_length]
    refine ⟨by simp [frK_len]; exact sz5000 (by omega), fun i acc => acc = ((rename b (ordB b)).take i).map stD, rfl, ?_, ?_⟩
    · rintro i it acc hit rfl
      obtain ⟨s, hs, rfl⟩ := nat_at (l := ordB b) (by rw [← e1]; exact hit)
      have hsl := lt s (List.mem_of_getElem? hs)
      refine ⟨_, state_at hsl, ?_⟩
      refine ⟨by simp; exact sz5000 (by have := hm s; omega), fun j acc => acc = (((mvs b s).map fun p => (p.1, (ordB b).idxOf p.2)).take j).map mvD, rfl, ?_, ?_⟩
      · rintro j it acc hjt rfl
        obtain ⟨p, hp, rfl⟩ := one_at2 hjt
        have pin : p.2 ∈ ordB b := (metOR h0 hb).cl s (List.mem_of_getElem? hs) p (List.mem_of_getElem? hp)
        refine ⟨rfl, kN p.2, .int ((ordB b).idxOf p.2 : Nat), rfl, numD_val nd pin, _, rfl, ?_⟩
        show _ = _
        have : ((mvs b s).map fun p => (p.1, (ordB b).idxOf p.2))[j]? = some (p.1, (ordB b).idxOf p.2) := by rw [List.getElem?_map, hp]; rfl
        rw [take_snoc this, List.map_append]
        rfl
      · rintro acc rfl
        rw [ones_len, List.length_map, ← List.length_map (as := mvs b s) (f := fun p => (p.1, (ordB b).idxOf p.2)), List.take_length]
        refine ⟨_, rfl, ?_⟩
        show _ = _
        have : (rename b (ordB b))[i]? = some ((mvs b s).map fun p => (p.1, (ordB b).idxOf p.2)) := by unfold rename; rw [List.getElem?_map, hs]; rfl
        rw [take_snoc this, List.map_append]
        rfl
    · rintro acc rfl
      rw [ones_len, e1, natsD_len, ← rename_len (b := b), List.take_length]
      exact h
  · refine ⟨b, 0, rfl, rfl, h0, hb, h5, ?_⟩
    have e1 : (frK (ordR b 0)).map (fun kv => kD kv.1) = natsD (ordB b) := by unfold frK; rw [List.map_map]; exact ek
    refine ⟨by simp [enums, frK_len]; exact sz5000 (by omega), fun i acc => acc = numD ((ordB b).take i), rfl, ?_, ?_⟩
    · rintro i it acc hit rfl
      obtain ⟨s, hs, rfl⟩ := enum_at (l := ordB b) (by rw [← e1]; exact hit)
      have no : s ∉ ((ordB b).take i) := fun z => by
        have := take_snoc hs
        have nd2 : ((ordB b).take (i + 1)).Nodup := nd.sublist (List.take_sublist _ _)
        rw [this, List.nodup_append] at nd2
        exact nd2.2.2 _ z _ (by simp) rfl
      refine ⟨rfl, kN s, rfl, ?_⟩
      show _ = _
      rw [take_snoc hs, numD_snoc no]
      have : ((ordB b).take i).length = i := by rw [List.length_take]; have := (List.getElem?_eq_some_iff.mp hs).1; omega
      rw [this]
    rintro acc rfl
    have el : (enums (((frK (ordR b 0)).map fun kv => kD kv.1).map Vl.p)).length = (ordB b).length := by rw [e1]; simp [enums, natsD]
    rw [el, List.take_length]
    refine ⟨by simp [frK_len]; exact sz5000 (by omega), fun i acc => acc = ((rename b (ordB b)).take i).map stD, rfl, ?_, ?_⟩
    · rintro i it acc hit rfl
      obtain ⟨s, hs, rfl⟩ := nat_at (l := ordB b) (by rw [← e1]; exact hit)
      have hsl := lt s (List.mem_of_getElem? hs)
      refine ⟨_, state_at hsl, ?_⟩
      refine ⟨by simp; exact sz5000 (by have := hm s; omega), fun j acc => acc = (((mvs b s).map fun p => (p.1, (ordB b).idxOf p.2)).take j).map mvD, rfl, ?_, ?_⟩
      · rintro j it acc hjt rfl
        obtain ⟨p, hp, rfl⟩ := one_at2 hjt
        have pin : p.2 ∈ ordB b := (metOR h0 hb).cl s (List.mem_of_getElem? hs) p (List.mem_of_getElem? hp)
        refine ⟨rfl, kN p.2, .int ((ordB b).idxOf p.2 : Nat), rfl, numD_val nd pin, _, rfl, ?_⟩
        show _ = _
        have : ((mvs b s).map fun p => (p.1, (ordB b).idxOf p.2))[j]? = some (p.1, (ordB b).idxOf p.2) := by rw [List.getElem?_map, hp]; rfl
        rw [take_snoc this, List.map_append]
        rfl
      · rintro acc rfl
        rw [ones_len, List.length_map, ← List.length_map (as := mvs b s) (f := fun p => (p.1, (ordB b).idxOf p.2)), List.take_length]
        refine ⟨_, rfl, ?_⟩
        show _ = _
        have : (rename b (ordB b))[i]? = some ((mvs b s).map fun p => (p.1, (ordB b).idxOf p.2)) := by unfold rename; rw [List.getElem?_map, hs]; rfl
        rw [take_snoc this, List.map_append]
        rfl
    · rintro acc rfl
      rw [ones_len, e1, natsD_len, ← rename_len (b := b), List.take_length]
      exact h
  · refine ⟨b, 0, rfl, rfl, h0, hb, h5, ?_⟩
    have e1 : (frK (ordR b 0)).map (fun kv => kD kv.1) = natsD (ordB b) := by unfold frK; rw [List.map_map]; exact ek
    refine ⟨by simp [enums, frK_len]; exact sz5000 (by omega), fun i acc => acc = numD ((ordB b).take i), rfl, ?_, ?_⟩
    · rintro i it acc hit rfl
      obtain ⟨s, hs, rfl⟩ := enum_at (l := ordB b) (by rw [← e1]; exact hit)
      have no : s ∉ ((ordB b).take i) := fun z => by
        have := take_snoc hs
        have nd2 : ((ordB b).take (i + 1)).Nodup := nd.sublist (List.take_sublist _ _)
        rw [this, List.nodup_append] at nd2
        exact nd2.2.2 _ z _ (by simp) rfl
      refine ⟨rfl, kN s, rfl, ?_⟩
      show _ = _
      rw [take_snoc hs, numD_snoc no]
      have : ((ordB b).take i).length = i := by rw [List.length_take]; have := (List.getElem?_eq_some_iff.mp hs).1; omega
      rw [this]
    rintro acc rfl
    have el : (enums (((frK (ordR b 0)).map fun kv => kD kv.1).map Vl.p)).length = (ordB b).length := by rw [e1]; simp [enums, natsD]
    rw [el, List.take_length]
    refine ⟨by simp [frK_len]; exact sz5000 (by omega), fun i acc => acc = ((rename b (ordB b)).take i).map stD, rfl, ?_, ?_⟩
    · rintro i it acc hit rfl
      obtain ⟨s, hs, rfl⟩ := nat_at (l := ordB b) (by rw [← e1]; exact hit)
      have hsl := lt s (List.mem_of_getElem? hs)
      refine ⟨_, state_at hsl, ?_⟩
      refine ⟨by simp; exact sz5000 (by have := hm s; omega), fun j acc => acc = (((mvs b s).map fun p => (p.1, (ordB b).idxOf p.2)).take j).map mvD, rfl, ?_, ?_⟩
      · rintro j it acc hjt rfl
        obtain ⟨p, hp, rfl⟩ := one_at2 hjt
        have pin : p.2 ∈ ordB b := (metOR h0 hb).cl s (List.mem_of_getElem? hs) p (List.mem_of_getElem? hp)
        refine ⟨rfl, kN p.2, .int ((ordB b).idxOf p.2 : Nat), rfl, numD_val nd pin, _, rfl, ?_⟩
        show _ = _
        have : ((mvs b s).map fun p => (p.1, (ordB b).idxOf p.2))[j]? = some (p.1, (ordB b).idxOf p.2) := by rw [List.getElem?_map, hp]; rfl
        rw [take_snoc this, List.map_append]
        rfl
      · rintro acc rfl
        rw [ones_len, List.length_map, ← List.length_map (as := mvs b s) (f := fun p => (p.1, (ordB b).idxOf p.2)), List.take_length]
        refine ⟨_, rfl, ?_⟩
        show _ = _
        have : (rename b (ordB b))[i]? = some ((mvs b s).map fun p => (p.1, (ordB b).idxOf p.2)) := by unfold rename; rw [List.getElem?_map, hs]; rfl
        rw [take_snoc this, List.map_append]
        rfl
    · rintro acc rfl
      rw [ones_len, e1, natsD_len, ← rename_len (b := b), List.take_length]
      exact h
end
end Nv
set_option maxHeartbeats 2000000
set_option pp.maxSteps 2500
set_option Elab.async false
set_option linter.all false
set_option maxRecDepth 100000
namespace Nv
open PySem PySem.Spec PyProof.Rows L2
section
variable {P : Program} {w : World} {K : PySem.W.Frag} {mg : Str → Option Value} {base : Heap}
/-! ### what is seen -/
theorem ordB_lt {b : Book} (h0 : 0 < b.length) (hb : ∀ s, ∀ p ∈ mvs b s, p.2 < b.length) : ∀ s ∈ ordB b, s < b.length := fun s hs => by
  rw [← ordR_keys] at hs
  obtain ⟨q, hq, rfl⟩ := List.mem_map.mp hs
  exact (stR_ok h0 hb b.length).lt q hq
theorem frK_keys {b : Book} : (frK (ordR b 0)).map (fun kv => kD kv.1) = natsD (ordB b) := by
  unfold frK
  rw [List.map_map, ← ordR_keys]
  unfold natsD
  rw [List.map_map]
  rfl
theorem ordB_len (b : Book) : (ordB b).length = (ordR b 0).length := by rw [← ordR_keys, List.length_map]
def sv_seen_part : S2 := fun a c Po _ => ∃ (b : Book) (w : Nat) (ps : List Plc), OkB b ∧ LayOk b w ps ∧ a = .p (bookD b) ∧ c = .p (layD w ps) ∧ Po (.p (layD w (seenP ps (ordB (mvL b ps)))))
theorem sc_seen_part : FnScope ["book", "laying", "moves", "pairs", "places", "place", "numbered", "state", "steps", "pair", "step"] ["book", "laying"] (defScope s_seen_part) := ⟨rfl, rfl, rfl, by decide +kernel, rfl, by decide +kernel, by decide +kernel⟩
theorem okV_seen_part (T : Tx K mg) : FnOk P w K mg base CX0 3 T.seen_part.f T.seen_part.fd ["book", "laying"] (spC K (sv2 sv_seen_part)) := by
  refine T.seen_part.F.ok sc_seen_part (fun vs H Q E h => spC_len sv2_len h) (fun cdv A outer s H vs Q E hr h => ?_)
  refine ⟨_, (show PSs _ _ (liftS ⟨K, clT T, E⟩ _) from (vs_cons (vs_set (i := 2) sc_seen_part.nd rfl (.inl rfl) (ve_call (pe_call (okV_moves_of T) (hr.mono (by decide)) (by rfl) T.moves_of.g T.moves_of.F.kp T.moves_of.b .nil pass0 (va_cons (ve_var (pv 0)) (va_cons (ve_var (pv 1)) va_nil))) (fun _ => .nil)))
      (vs_cons (vs_set (i := 3) sc_seen_part.nd rfl (.inl rfl) (ve_call (pe_call (okV_by_meeting T) (hr.mono (by decide)) (by rfl) T.by_meeting.g T.by_meeting.F.kp T.by_meeting.b .nil pass0 (va_cons (ve_var (pv 2)) va_nil)) (fun _ => .nil)))
      (vs_cons (vs_set (i := 4) sc_seen_part.nd rfl (.inl rfl) (ve_lst va_nil))
      (vs_cons (vs_for PassesOwn.never rfl (vi_zp (pi_zipBK K (by rfl) T.n_zip (va_cons (ve_cb (pe_callTy (call_list_dK rfl) (by rfl) T.n_list (by decide +kernel) (va_cons (ve_call (pe_call (okV_first_rows T) (hr.mono (by decide)) (by rfl) T.first_rows.g T.first_rows.F.kp T.first_rows.bD.choose_spec.2 T.first_rows.bD.choose_spec.1 pass0 (va_cons (ve_var (pv 2)) va_nil)) (fun _ => .cons (.int _) .nil)) va_nil)) c_listD) (va_cons (ve_var (pv 3)) va_nil)))) (vg_tup (pg_tupK (n := 2) K rfl (vgs_cons (vg_name (pg_name (i := 5) sc_seen_part.nd rfl (.inl rfl))) (vgs_cons (vg_name (pg_name (i := 6) sc_seen_part.nd rfl (.inl rfl))) vgs_nil))))
        (vs_cons (vs_asg (ps_asg (ve_ix (ix_anyK K) c_ix (ve_ix (ix_anyK K) c_ix (ve_var (pv 1)) ve_int (fun _ _ => rfl)) (ve_var (pv 5)) (fun _ _ => rfl)) (vg_tup (pg_tupK (n := 2) K rfl (vgs_cons (vg_name (pg_name (i := 7) sc_seen_part.nd rfl (.inl rfl))) (vgs_cons (vg_name (pg_name (i := 8) sc_seen_part.nd rfl (.inl rfl))) vgs_nil))))))
        (vs_one (vs_append (ps_expr (pe_bmK K PySem.F.plainAttrs_list PySem.F.slot_list_append PySem.F.type_list_append mt_append (pv 4) (pa_cons (ve_tup (va_cons (ve_var (pv 7)) (va_cons (ve_cb (pe_callTy (call_tupZK K) (by rfl) T.n_tuple (by decide +kernel) (va_cons (ve_lc (pe_lc (own := [("pair", 9), ("step", 10)]) rfl sc_seen_part.nd (vi_zp (pi_zipBK K (by rfl) T.n_zip (va_cons (ve_var (pv 6)) (va_cons (ve_var (pv 8)) va_nil)))) (blkOk_by (own := [("pair", 9), ("step", 10)]) (N := ["book", "laying", "moves", "pairs", "places", "place", "numbered", "state", "steps", "pair", "step"]) (sc := defScope s_seen_part) (by decide +kernel)) (fun _ _ _ _ _ => (vg_tup (pg_tupK (n := 2) K rfl (vgs_cons (vg_name (pg_name (i := 9) sc_seen_part.nd rfl (.inl rfl))) (vgs_cons (vg_name (pg_name (i := 10) sc_seen_part.nd rfl (.inl rfl))) vgs_nil))))) (fun _ _ _ _ _ => pts_nil) (fun _ _ _ _ _ => (ve_tup (va_cons (ve_ix (ix_anyK K) c_ix (ve_var (pv 9)) ve_int (fun _ _ => rfl)) (va_cons (ve_ix (ix_anyK K) c_ix (ve_var (pv 10)) ve_int (fun _ _ => rfl)) va_nil))))) lift_yes (by decide)) va_nil)) c_tupOf) va_nil))) pa_nil)))))))
      (vs_one (vs_ret (ve_tup (va_cons (ve_ix (ix_anyK K) c_ix (ve_var (pv 1)) ve_int (fun _ _ => rfl)) (va_cons (ve_cb (pe_callTy (call_tupZK K) (by rfl) T.n_tuple (by decide +kernel) (va_cons (ve_var (pv 4)) va_nil)) c_tupOf) va_nil)))))))))), enterC2 h ?_⟩
  rintro _ _ Po ⟨b, w, ps, okb, ok, rfl, rfl, h⟩
  have fb := okb.toFormB
  obtain ⟨r1, r2, r3⟩ := ok.rows
  have few : ∀ s, (mvs (mvL b ps) s).length ≤ 1000 := fun s => by
    by_cases hs : s < ps.length
    · obtain ⟨p, hp⟩ := get_lt hs
      rw [mvL_at hp, ok.plen (List.mem_of_getElem? hp), ok.len p (List.mem_of_getElem? hp)]
      have := (fb.ok (ok.st p (List.mem_of_getElem? hp))).few
      omega
    · rw [mvs_out (by rw [mvL_len]; omega)]
      exact Nat.zero_le _
  refine ⟨b, w, ps, ⟨fb, ok⟩, rfl, rfl, ?_⟩
  refine ⟨mvL b ps, rfl, r1, r2, r3, few, ?_⟩
  refine ⟨mvL b ps, 0, rfl, rfl, r1, r2, r3, ?_⟩
  have hl := ordR_len r1 r2
  generalize hF : ordB (mvL b ps) = F at *
  have hFl : F.length = (ordR (mvL b ps) 0).length := by rw [← hF]; exact ordB_len _
  have Flt : ∀ s ∈ F, s < ps.length := fun s hs => by rw [← hF] at hs; have := ordB_lt r1 r2 s hs; rw [mvL_len] at this; exact this
  refine ⟨fun i ρ => ∃ y5 y6 y7 y8 y9 y10, ρ = [.im (bookD b), .im (layD w ps), .mu (.L ((mvL b ps).map stD)), .im (.tuple ((rename (mvL b ps) F).map stD)), .mu (.L (((seenP ps F).take i).map plcD)), y5, y6, y7, y8, y9, y10], ⟨_, _, _, _, _, _, rfl⟩, ?_, ?_⟩
  · rintro i it ρ hit ⟨y5, y6, y7, y8, y9, y10, rfl⟩
    obtain ⟨x, y, hx, hy, rfl⟩ := two_at hit
    rw [frK_keys, hF] at hx
    obtain ⟨k, hk, rfl⟩ := map2_at (f := fun n : Nat => (.int (n : Int) : D)) hx
    obtain ⟨s, hs, rfl⟩ := map2_at hy
    have hkl := Flt k (List.mem_of_getElem? hk)
    obtain ⟨p, hp⟩ := get_lt hkl
    have pm := List.mem_of_getElem? hp
    have es : s = (mvP b p).map fun x => (x.1, F.idxOf x.2) := by
      unfold rename at hs
      rw [List.getElem?_map, hk] at hs
      cases hs
      show (mvs (mvL b ps) k).map _ = _
      rw [mvL_at hp]
    subst es
    refine ⟨rfl, .tuple (ps.map plcD), rfl, plcD p, atI_nat (by rw [List.getElem?_map, hp]; rfl), rfl, ?_⟩
    have h5 := (fb.ok (ok.st p pm)).few
    have pl := ok.plen pm
    have el : (pairs ((((mvP b p).map fun x => (x.1, F.idxOf x.2)).map mvD).map Vl.p) ((p.2.map stpD).map Vl.p)).length = p.2.length := by rw [pairs_len]; simp [pl]
    refine ⟨by rw [el, ok.len p pm]; exact sz5000 (by omega), fun j acc => acc = ((p.2.map fun m => ((F.idxOf m.1, m.2) : Stp)).take j).map stpD, rfl, ?_, ?_⟩
    · rintro j it acc hjt rfl
      obtain ⟨x, y, hx, hy, rfl⟩ := two_at hjt
      obtain ⟨x', hx', rfl⟩ := map2_at hx
      obtain ⟨m, hm, rfl⟩ := map2_at hy
      rw [List.getElem?_map] at hx'
      obtain ⟨z, hz, rfl⟩ := Option.map_eq_some_iff.mp hx'
      obtain ⟨q, m', h1, h2, rfl⟩ := mvP_get hz
      rw [hm] at h2
      cases h2
      refine ⟨rfl, _, rfl, _, rfl, _, rfl, ?_⟩
      show _ = _
      have : (p.2.map fun m => ((F.idxOf m.1, m.2) : Stp))[j]? = some (F.idxOf m.1, m.2) := by rw [List.getElem?_map, hm]; rfl
      rw [take_snoc this, List.map_append]
      rfl
    · rintro acc rfl
      rw [el, ← List.length_map (as := p.2) (f := fun m => ((F.idxOf m.1, m.2) : Stp)), List.take_length]
      have hsz : (((seenP ps F).take i).map plcD).length < sizeLine := by
        rw [List.length_map, List.length_take]
        exact sz5000 (by unfold seenP; rw [List.length_map]; omega)
      have : (seenP ps F)[i]? = some (p.1, p.2.map fun m => (F.idxOf m.1, m.2)) := by unfold seenP; rw [List.getElem?_map, hk]; simp only [Option.map_some, plAt_of hp]
      exact ⟨hsz, _, _, _, _, _, _, by rw [take_snoc this, List.map_append]; rfl⟩
  · rintro ρ ⟨y5, y6, y7, y8, y9, y10, rfl⟩
    have el : (pairs (((frK (ordR (mvL b ps) 0)).map fun kv => kD kv.1).map Vl.p) (((rename (mvL b ps) F).map stD).map Vl.p)).length = (seenP ps F).length := by
      rw [pairs_len, frK_keys, hF]
      simp [natsD, rename_len, seenP]
    rw [el, List.take_length]
    exact ⟨_, rfl, h⟩
def sv_seen : S2 := sv_seen_part
theorem sc_seen : FnScope ["book", "laying"] ["book", "laying"] (defScope s_seen) := ⟨rfl, rfl, rfl, by decide +kernel, rfl, by decide +kernel, by decide +kernel⟩
theorem okV_seen (T : Tx K mg) : FnOk P w K mg base CX0 8 T.seen.f T.seen.fd ["book", "laying"] (spC K (sv2 sv_seen)) := by
  refine T.seen.F.ok sc_seen (fun vs H Q E h => spC_len sv2_len h) (fun cdv A outer s H vs Q E hr h => ?_)
  refine ⟨_, (show PSs _ _ (liftS ⟨K, clT T, E⟩ _) from (vs_cons (vs_expr (ve_call (pe_call (okV_made_laying T) (hr.mono (by decide)) (by rfl) T.made_laying.g T.made_laying.F.kp T.made_laying.b .nil pass0 (va_cons (ve_var (pv 0)) (va_cons (ve_var (pv 1)) va_nil))) (fun _ => .nil)))
      (vs_one (vs_ret (ve_call (pe_call (okV_seen_part T) (hr.mono (by decide)) (by rfl) T.seen_part.g T.seen_part.F.kp T.seen_part.b .nil pass0 (va_cons (ve_var (pv 0)) (va_cons (ve_var (pv 1)) va_nil))) (fun _ => .nil)))))), enterC2 h ?_⟩
  rintro _ _ Po ⟨b, w, ps, okb, ok, rfl, rfl, h⟩
  exact ⟨b, w, ps, okb, ok, rfl, rfl, b, w, ps, okb, ok, rfl, rfl, h⟩
/-! ### a message without pulses -/
def sv_first_nought : S2 := fun a c Po _ => ∃ (b : Book) (w : Nat) (ps : List Plc), OkB b ∧ LayOk b w ps ∧ a = .p (bookD b) ∧ c = .p (layD w ps) ∧ Po (.p (noughtD b ps (ordB (mvL b ps))))
theorem head_app {α : Type} {l m : List α} : (l ++ m).head? = if l = [] then m.head? else l.head? := by cases l <;> simp
theorem sc_first_nought : FnScope ["book", "laying", "lots", "place", "message", "lot"] ["book", "laying"] (defScope s_first_nought) := ⟨rfl, rfl, rfl, by decide +kernel, rfl, by decide +kernel, by decide +kernel⟩
theorem okV_first_nought (T : Tx K mg) : FnOk P w K mg base CX0 2 T.first_nought.f T.first_nought.fd ["book", "laying"] (spC K (sv2 sv_first_nought)) := by
  refine T.first_nought.F.ok sc_first_nought (fun vs H Q E h => spC_len sv2_len h) (fun cdv A outer s H vs Q E hr h => ?_)
  refine ⟨_, (show PSs _ _ (liftS ⟨K, clT T, E⟩ _) from (vs_cons (vs_set (i := 2) sc_first_nought.nd rfl (.inl rfl) (ve_call (pe_call (okV_lots_of T) (hr.mono (by decide)) (by rfl) T.lots_of.g T.lots_of.F.kp T.lots_of.b .nil pass0 (va_cons (ve_var (pv 0)) (va_cons (ve_var (pv 1)) va_nil))) (fun _ => .nil)))
      (vs_cons (vs_lk 2 (vs_for PassesOwn.never rfl (vi_keys (ve_call (pe_call (okV_first_rows T) (hr.mono (by decide)) (by rfl) T.first_rows.g T.first_rows.F.kp T.first_rows.bD.choose_spec.2 T.first_rows.bD.choose_spec.1 pass0 (va_cons (ve_call (pe_call (okV_moves_of T) (hr.mono (by decide)) (by rfl) T.moves_of.g T.moves_of.F.kp T.moves_of.b .nil pass0 (va_cons (ve_var (pv 0)) (va_cons (ve_var (pv 1)) va_nil))) (fun _ => .nil)) va_nil)) (fun _ => .cons (.int _) .nil))) (vg_name (pg_name (i := 3) sc_first_nought.nd rfl (.inl rfl)))
        (vs_one (vs_lk 2 (vs_for PassesOwn.never rfl (vi_items (ve_ix (ix_anyK K) c_ix (ve_var (pv 2)) (ve_var (pv 3)) (fun _ _ => rfl))) (vg_tup (pg_tupK (n := 2) K rfl (vgs_cons (vg_name (pg_name (i := 4) sc_first_nought.nd rfl (.inl rfl))) (vgs_cons (vg_name (pg_name (i := 5) sc_first_nought.nd rfl (.inl rfl))) vgs_nil))))
          (vs_one (vs_if (vt_not (vt_val (ve_cb (pe_callB (cr_anyTIK K) (by rfl) T.n_any (by decide +kernel) (va_cons (ve_var (pv 5)) va_nil)) c_anyT)))
            (vs_one (vs_ret (ve_tup (va_cons (ve_var (pv 3)) (va_cons (ve_var (pv 4)) va_nil)))))
            vs_nil)))))))
      (vs_one (vs_ret ve_non))))), enterC2 h ?_⟩
  rintro _ _ Po ⟨b, w, ps, okb, ok, rfl, rfl, h⟩
  have fb := okb.toFormB
  obtain ⟨r1, r2, r3⟩ := ok.rows
  refine ⟨b, w, ps, ⟨fb, ok⟩, rfl, rfl, ?_⟩
  refine ⟨b, w, ps, ⟨fb, ok⟩, rfl, rfl, ?_⟩
  refine ⟨mvL b ps, 0, rfl, rfl, r1, r2, r3, ?_⟩
  have hl := ordR_len r1 r2
  unfold noughtD at h
  generalize hF : ordB (mvL b ps) = F at *
  have Flt : ∀ s ∈ F, s < ps.length := fun s hs => by rw [← hF] at hs; have := ordB_lt r1 r2 s hs; rw [mvL_len] at this; exact this
  have keyF : ∀ (i : Nat) (it : Iv), (keyI (frK (ordR (mvL b ps) 0)))[i]? = some it → ∃ k, F[i]? = some k ∧ it = .one (.p (.int (k : Int))) := fun i it hit => by
    obtain ⟨q, hq, rfl⟩ := key_at (key := fun q : Nat × Row => q.1) (g := fun q : Nat × Row => rwD q.2) hit
    exact ⟨q.1, by rw [← hF, ← ordR_keys, List.getElem?_map, hq]; rfl, rfl⟩
  have hFl : F.length = (keyI (frK (ordR (mvL b ps) 0))).length := by rw [key_len, frK_len, ← hF]; exact ordB_len _
  have lkE : lkMA (ps.map fun p => M.DK (ltK b p)) = ps.map fun p => M.FK (ltK b p) := by
    have : ∀ l : List Plc, lkMA (l.map fun p => M.DK (ltK b p)) = l.map fun p => M.FK (ltK b p) := fun l => by
      induction l with
      | nil => rfl
      | cons a l ih => exact congrArg (List.cons _) ih
    exact this ps
  refine ⟨fun i ρ => ∃ y3 y4 y5, ρ = [.im (bookD b), .im (layD w ps), .rd (.LL (ps.map fun p => .FK (ltK b p))), y3, y4, y5] ∧ (F.flatMap (cand b ps)).head? = ((F.drop i).flatMap (cand b ps)).head?, ⟨_, _, _, (by rw [← lkE]; rfl), rfl⟩, ?_, ?_⟩
  · rintro i it ρ hit ⟨y3, y4, y5, rfl, hh⟩
    obtain ⟨k, hk, rfl⟩ := keyF i it hit
    have hkl := Flt k (List.mem_of_getElem? hk)
    obtain ⟨p, hp⟩ := get_lt hkl
    have pm := List.mem_of_getElem? hp
    rw [drop_at hk, List.flatMap_cons, head_app] at hh
    have ec : cand b ps k = ((mvs b p.1).zip p.2).filterMap fun q => if nzL q.2.2 = true then none else some (k, q.1.1) := by unfold cand; rw [plAt_of hp]
    refine ⟨.FK (ltK b p), atI_nat (by rw [List.getElem?_map, hp]; rfl), ?_⟩
    refine ⟨fun j ρ => ∃ y4 y5, ρ = [.im (bookD b), .im (layD w ps), .rd (.LL (ps.map fun p => .FK (ltK b p))), .im (.int (k : Int)), y4, y5] ∧ (cand b ps k).head? = ((((mvs b p.1).zip p.2).drop j).filterMap fun q => if nzL q.2.2 = true then none else some (k, q.1.1)).head?, ⟨_, _, rfl, by rw [ec]; rfl⟩, ?_, ?_⟩
    · rintro j it ρ hjt ⟨y4, y5, rfl, hc⟩
      obtain ⟨q, hq, rfl⟩ := item_at (key := fun q : (Nat × Nat) × Stp => q.1.1) (g := fun q : (Nat × Nat) × Stp => lotD q.2.2) hjt
      rw [drop_at hq, List.filterMap_cons] at hc
      refine ⟨rfl, q.2.2, .inl rfl, ?_⟩
      show if (!nzL q.2.2) = true then _ else _
      cases hz : nzL q.2.2 with
      | true =>
        rw [hz] at hc
        exact ⟨_, _, rfl, hc⟩
      | false =>
        rw [hz] at hc
        have hc : (cand b ps k).head? = some (k, q.1.1) := hc
        have hne : cand b ps k ≠ [] := fun z => by rw [z] at hc; cases hc
        rw [if_neg hne, hc] at hh
        rw [hh] at h
        exact h
    · rintro ρ ⟨y4, y5, rfl, hc⟩
      have hlen : (itemI (ltK b p)).length = ((mvs b p.1).zip p.2).length := by rw [item_len]; unfold ltK; rw [List.length_map]
      rw [hlen, List.drop_length] at hc
      have hc : (cand b ps k).head? = none := hc
      have he : cand b ps k = [] := List.head?_eq_none_iff.mp hc
      rw [if_pos he] at hh
      exact ⟨_, _, _, rfl, hh⟩
  · rintro ρ ⟨y3, y4, y5, rfl, hh⟩
    rw [← hFl, List.drop_length] at hh
    rw [hh] at h
    exact h
def sv_nought : S2 := sv_first_nought
theorem sc_nought : FnScope ["book", "laying"] ["book", "laying"] (defScope s_nought) := ⟨rfl, rfl, rfl, by decide +kernel, rfl, by decide +kernel, by decide +kernel⟩
theorem okV_nought (T : Tx K mg) : FnOk P w K mg base CX0 8 T.nought.f T.nought.fd ["book", "laying"] (spC K (sv2 sv_nought)) := by
  refine T.nought.F.ok sc_nought (fun vs H Q E h => spC_len sv2_len h) (fun cdv A outer s H vs Q E hr h => ?_)
  refine ⟨_, (show PSs _ _ (liftS ⟨K, clT T, E⟩ _) from (vs_cons (vs_expr (ve_call (pe_call (okV_made_laying T) (hr.mono (by decide)) (by rfl) T.made_laying.g T.made_laying.F.kp T.made_laying.b .nil pass0 (va_cons (ve_var (pv 0)) (va_cons (ve_var (pv 1)) va_nil))) (fun _ => .nil)))
      (vs_one (vs_ret (ve_call (pe_call (okV_first_nought T) (hr.mono (by decide)) (by rfl) T.first_nought.g T.first_nought.F.kp T.first_nought.b .nil pass0 (va_cons (ve_var (pv 0)) (va_cons (ve_var (pv 1)) va_nil))) (fun _ => .nil)))))), enterC2 h ?_⟩
  rintro _ _ Po ⟨b, w, ps, okb, ok, rfl, rfl, h⟩
  exact ⟨b, w, ps, okb, ok, rfl, rfl, b, w, ps, okb, ok, rfl, rfl, h⟩
end
end Nv
set_option maxHeartbeats 2000000
set_option pp.maxSteps 2500
set_option Elab.async false
set_option linter.all false
set_option maxRecDepth 100000
namespace Nv
open PySem PySem.Spec PyProof.Rows L2
section
variable {P : Program} {w : World} {K : PySem.W.Frag} {mg : Str → Option Value} {base : Heap}
/-! ### the law's draws -/
theorem sc_law_pool : FnScope ["script", "first", "size"] ["script"] (defScope s_law_pool) := ⟨rfl, rfl, rfl, by decide +kernel, rfl, by decide +kernel, by decide +kernel⟩
def sp_law_pool (K : PySem.W.Frag) : Sp := fun vs H Q _ => ∃ (a : Addr) (ns : List Int), vs = [.ref a] ∧ SqL K H a (ns.map V.int) ∧ ns.length ≤ 63 ∧ ∀ (p l : Addr) (H' : Hp), H p = none → H l = none → PoolAt H' p l → Ext [] H H' → Q (.ref p) H'
theorem ok_law_pool (T : Tx K mg) : FnOk P w K mg base CX0 1 T.law_pool.f T.law_pool.fd ["script"] (sp_law_pool K) := by
  refine T.law_pool.F.ok sc_law_pool (fun vs H Q E h => ?_) (fun cdv A outer s H vs Q E hr h => ?_)
  · obtain ⟨a, ns, rfl, _⟩ := h; rfl
  · obtain ⟨a, ns, rfl, hS, hl, q⟩ := h
    refine ⟨_, (C8.pss_cut (ps_set (i := 1) sc_law_pool.nd rfl (.inl rfl) (pe_mid (pe_ifExp (pt_cmpR op_gt (pe_callB call_len_seq (by rfl) T.n_len PySem.boot_len (pa_cons (pv 0) pa_nil)) pe_int (nomark _)) (pe_callTy call_int1 (by rfl) T.n_int (by decide +kernel) (pa_cons (pe_ix ix_list (pv 0) pe_int (fun _ _ => rfl)) pa_nil)) pe_int)))
      (C8.pss_cut (ps_set (i := 2) sc_law_pool.nd rfl (.inl rfl) (pe_mid (pe_ifExp (pt_cmpR op_ge (pv 1) pe_int (nomark _)) (pe_op op_mul pe_int (pv 1)) (pe_op op_sub (pe_un un_neg pe_int) (pe_op op_mul pe_int (pv 1))))))
      (pss_one (ps_ret (pe_lst (pa_cons (pe_mid (pe_ifExp (pt_cmpR op_ge (pv 2) (pe_op op_pow pe_int pe_int) (nomark _)) (pv 2) pe_int)) (pa_cons (pe_op op_add (pe_op op_mod (pe_callTy call_int1 (by rfl) T.n_int (by decide +kernel) (pa_cons (pe_op op_add (pe_op op_mul (pv 2) pe_int) pe_int) pa_nil)) pe_int) pe_int) (pa_cons (pe_callTy call_list_of (by rfl) T.n_list (by decide +kernel) (pa_cons (pe_slice sl_list (pv 0) (po_some pe_int) po_none) pa_nil)) pa_nil)))))))), ?_⟩
    refine ⟨fun σ' H' => H' = H ∧ ∃ i : Int, σ' = [some (.ref a), some (.int i), none], ?_, ?_⟩
    · refine ⟨fun v H' => H' = H ∧ ∃ i : Int, v = .int i, ?_, ?_⟩
      · refine ⟨_, rfl, a, _, rfl, .inl hS, _, _, rfl, rfl, _, rfl, ite2 (fun e => ?_) (fun e => ?_)⟩
        · cases ns with
          | nil => simp at e
          | cons n r => exact ⟨_, rfl, _, _, _, _, rfl, rfl, hS, atI_nat (j := 0) rfl, .inl ⟨_, rfl, rfl, _, rfl⟩⟩
        · exact ⟨rfl, _, rfl⟩
      · rintro v H' ⟨rfl, i, rfl⟩
        exact ⟨rfl, i, rfl⟩
    · rintro σ' H' ⟨rfl, i, rfl⟩
      refine ⟨fun σ' H1 => H1 = H' ∧ ∃ z : Int, 0 ≤ z ∧ σ' = [some (.ref a), some (.int i), some (.int z)], ?_, ?_⟩
      · refine ⟨fun v H1 => H1 = H' ∧ ∃ z : Int, 0 ≤ z ∧ v = .int z, ?_, ?_⟩
        · refine ⟨_, rfl, _, _, rfl, rfl, _, rfl, ite2 (fun e => ?_) (fun e => ?_)⟩
          · have e := of_decide_eq_true e
            exact ⟨_, rfl, _, _, rfl, rfl, .inl ⟨by decide, by decide⟩, rfl, _, by omega, rfl⟩
          · have e : ¬ (0 ≤ i) := fun z => e (decide_eq_true z)
            exact ⟨_, rfl, _, rfl, _, _, rfl, rfl, .inl ⟨by decide, by decide⟩, _, _, rfl, rfl, rfl, _, by omega, rfl⟩
        · rintro v H1 ⟨rfl, z, hz, rfl⟩
          exact ⟨rfl, z, hz, rfl⟩
      · rintro σ' H1 ⟨rfl, z, hz, rfl⟩
        have ym : 0 ≤ (z * 48271 + 1009) % 2147483629 + 3 ∧ (z * 48271 + 1009) % 2147483629 + 3 < 4294967296 := by omega
        refine ⟨fun v H' => H' = H1 ∧ ∃ x : Int, 0 ≤ x ∧ v = .int x, ?_, ?_⟩
        · refine ⟨_, rfl, _, _, rfl, rfl, ⟨by decide, by decide, by decide⟩, _, _, rfl, rfl, _, rfl, ite2 (fun e => ?_) (fun e => ?_)⟩
          · exact ⟨_, rfl, rfl, z, hz, rfl⟩
          · exact ⟨rfl, 0, by omega, rfl⟩
        · rintro v H' ⟨rfl, x, hx, rfl⟩
          refine ⟨_, rfl, _, _, rfl, rfl, .inr ⟨by decide, by decide⟩, _, _, rfl, rfl, .inl ⟨_, rfl, _, _, rfl, rfl, (by show (0:Int) < 2147483629; decide), _, _, rfl, rfl, ?_⟩⟩
          refine ⟨.ref a, rfl, 1, rfl, a, _, rfl, hS, fun c hc => ⟨c, _, rfl, .inl (.of upd_same), fun l hl0 => ⟨(by show 3 ≤ sizeLine; decide), fun p hp => ?_⟩⟩⟩
          have s1 : Ext [] H' (upd H' c (.lst (cutV (ns.map V.int) (some 1) none))) := .new hc
          have s2 := s1.trans (Ext.new (L := []) (o := .lst (cutV (ns.map V.int) (some 1) none)) hl0)
          have pl : p ≠ l := fun e => by rw [e, upd_same] at hp; cases hp
          have cut : ∃ ms : List Int, cutV (ns.map V.int) (some 1) none = ms.map V.int ∧ ms.length ≤ 63 := by
            unfold cutV
            exact ⟨(ns.drop _).take _, by rw [List.map_take, List.map_drop], by rw [List.length_take, List.length_drop]; omega⟩
          obtain ⟨ms, em, hm⟩ := cut
          refine q p l _ (s2.free hp) (s1.free hl0) ⟨pl, x, _, ms, upd_same, ?_, hx, ym.1, ym.2, hm⟩ (s2.trans (.new hp))
          rw [upd_ne pl.symm, upd_same, em]
theorem sc_law_draw : FnScope ["pool", "many", "cell", "size", "found"] ["pool", "many"] (defScope s_law_draw) := ⟨rfl, rfl, rfl, by decide +kernel, rfl, by decide +kernel, by decide +kernel⟩
def sp_law_draw : Sp := fun vs H Q _ => ∃ (p l : Addr) (m : Int), vs = [.ref p, .int m] ∧ PoolAt H p l ∧ 0 < m ∧ m < 1073741824 ∧ ∀ (r : Int) (H' : Hp), 0 ≤ r → r < m → PoolAt H' p l → Ext [p, l] H H' → Q (.int r) H'
theorem ok_law_draw (T : Tx K mg) : FnOk P w K mg base CX0 1 T.law_draw.f T.law_draw.fd ["pool", "many"] sp_law_draw := by
  refine T.law_draw.F.ok sc_law_draw (fun vs H Q E h => ?_) (fun cdv A outer s H vs Q E hr h => ?_)
  · obtain ⟨p, l, m, rfl, _⟩ := h; rfl
  · obtain ⟨p, l, m, rfl, hP, hm, hm2, q⟩ := h
    refine ⟨_, (C8.pss_cut (ps_if (PW.pt (pw_and (pt_cmpR op_eq (pe_ix ix_list (pv 0) pe_int (fun _ _ => rfl)) pe_int (nomark _)) (pw_and1 (pt_cmpR (op_neD (hr.units)) (pe_ix ix_list (pv 0) pe_int (fun _ _ => rfl)) (pe_lst pa_nil) (nomark _)))))
        (pss_cons (ps_set (i := 2) sc_law_draw.nd rfl (.inl rfl) (pe_callTy call_int1 (by rfl) T.n_int (by decide +kernel) (pa_cons (pe_bm PySem.F.plainAttrs_list PySem.F.slot_list_pop PySem.F.type_list_pop mt_popAt (pe_ix ix_list (pv 0) pe_int (fun _ _ => rfl)) (pa_cons pe_int pa_nil)) pa_nil)))
        (pss_cons (ps_set (i := 3) sc_law_draw.nd rfl (.inl rfl) (pe_mid (pe_ifExp (pt_cmpR op_ge (pv 2) pe_int (nomark _)) (pe_op op_mul pe_int (pv 2)) (pe_op op_sub (pe_un un_neg pe_int) (pe_op op_mul pe_int (pv 2))))))
        (pss_cons (ps_asg (pe_mid (pe_ifExp (pt_cmpR op_ge (pv 3) (pe_op op_pow pe_int pe_int) (nomark _)) (pv 3) pe_int)) (pg_sub (pv 0) pe_int set_list))
        (pss_one (ps_asg (pe_op op_add (pe_op op_mod (pe_callTy call_int1 (by rfl) T.n_int (by decide +kernel) (pa_cons (pe_op op_add (pe_ix ix_list (pv 0) pe_int (fun _ _ => rfl)) (pe_op op_mul (pv 3) pe_int)) pa_nil)) pe_int) pe_int) (pg_sub (pv 0) pe_int set_list))))))
        pss_nil)
      (pss_cons (ps_if (pt_cmpR op_gt (pe_ix ix_list (pv 0) pe_int (fun _ _ => rfl)) pe_int (nomark _))
        (pss_cons (ps_set (i := 4) sc_law_draw.nd rfl (.inl rfl) (pe_op op_mod (pe_callTy call_int1 (by rfl) T.n_int (by decide +kernel) (pa_cons (pe_ix ix_list (pv 0) pe_int (fun _ _ => rfl)) pa_nil)) (pv 1)))
        (pss_cons (ps_asg (pe_op op_fdiv (pe_ix ix_list (pv 0) pe_int (fun _ _ => rfl)) (pv 1)) (pg_sub (pv 0) pe_int set_list))
        (pss_one (ps_ret (pv 4)))))
        pss_nil)
      (pss_cons (ps_asg (pe_op op_mod (pe_callTy call_int1 (by rfl) T.n_int (by decide +kernel) (pa_cons (pe_op op_add (pe_op op_mul (pe_ix ix_list (pv 0) pe_int (fun _ _ => rfl)) pe_int) pe_int) pa_nil)) pe_int) (pg_sub (pv 0) pe_int set_list))
      (pss_one (ps_ret (pe_op op_mod (pe_op op_fdiv (pe_op op_mod (pe_callTy call_int1 (by rfl) T.n_int (by decide +kernel) (pa_cons (pe_op op_mul (pe_ix ix_list (pv 0) pe_int (fun _ _ => rfl)) (pe_ix ix_list (pv 0) pe_int (fun _ _ => rfl))) pa_nil)) pe_int) pe_int) (pv 1))))))), ?_⟩
    obtain ⟨npl, x, y, ns, hp, hl, hx, hy, hy2, hn⟩ := id hP
    refine ⟨fun σ' H' => PoolAt H' p l ∧ Ext [p, l] H H' ∧ ∃ a b c, σ' = [some (.ref p), some (.int m), a, b, c], ?_, ?_⟩
    · refine ⟨_, rfl, _, _, _, _, rfl, rfl, .of hp, atI_nat (j := 0) rfl, rfl, _, rfl, ite2 (fun e => ?_) (fun e => ?_)⟩
      · refine ⟨_, rfl, _, _, _, _, rfl, rfl, .of hp, atI_nat (j := 2) rfl, by decide, fun c hc => ?_⟩
        have s1 : Ext [] H (upd H c (.lst [])) := .new hc
        refine ⟨_, _, .lst (.of (s1.at hl (by simp))) (dp_ints ns), .lst (.of upd_same) .nil, shaped_ints ns, by decide, _, rfl, ?_⟩
        rw [eqv_nil]
        cases ns with
        | nil =>
          rw [decide_eq_true rfl]
          exact iteF ⟨hP.ext0 s1, s1.weak, _, _, _, rfl⟩
        | cons n r =>
          rw [decide_eq_false (by simp)]
          refine iteT ?_
          have hp1 := s1.at hp (by simp)
          have hl1 := s1.at hl (by simp)
          -- cell
          refine ⟨_, rfl, _, _, _, _, rfl, rfl, .of hp1, atI_nat (j := 2) rfl, .inl ⟨rfl, _, .of hl1⟩, l, _, 0, 0, .int n, rfl, rfl, hl1, by decide, by decide, (by simp [seqIndex?]), rfl, .inl ⟨_, rfl, ?_⟩⟩
          have hp2 : upd (upd H c (.lst [])) l (.lst (((n :: r).map V.int).eraseIdx 0)) p = some (.lst [.int x, .int y, .ref l]) := by rw [upd_ne npl]; exact hp1
          have hl2 : upd (upd H c (.lst [])) l (.lst (((n :: r).map V.int).eraseIdx 0)) l = some (.lst (r.map V.int)) := upd_same
          have s2 : Ext [p, l] H (upd (upd H c (.lst [])) l (.lst (((n :: r).map V.int).eraseIdx 0))) := s1.weak.trans (.wr (by simp))
          generalize upd (upd H c (.lst [])) l (.lst (((n :: r).map V.int).eraseIdx 0)) = H2 at hp2 hl2 s2
          -- size
          refine ⟨fun v H1 => H1 = H2 ∧ ∃ z : Int, 0 ≤ z ∧ v = .int z, ?_, ?_⟩
          · refine ⟨_, rfl, _, _, rfl, rfl, _, rfl, ite2 (fun e => ?_) (fun e => ?_)⟩
            · have e := of_decide_eq_true e
              exact ⟨_, rfl, _, _, rfl, rfl, .inl ⟨by decide, by decide⟩, rfl, _, by omega, rfl⟩
            · have e : ¬ (0 ≤ n) := fun z => e (decide_eq_true z)
              exact ⟨_, rfl, _, rfl, _, _, rfl, rfl, .inl ⟨by decide, by decide⟩, _, _, rfl, rfl, rfl, _, by omega, rfl⟩
          · rintro v H1 ⟨rfl, z, hz, rfl⟩
            -- pool[0]
            refine ⟨fun v H' => H' = H1 ∧ ∃ x : Int, 0 ≤ x ∧ v = .int x, ?_, ?_⟩
            · refine ⟨_, rfl, _, _, rfl, rfl, ⟨by decide, by decide, by decide⟩, _, _, rfl, rfl, _, rfl, ite2 (fun e => ?_) (fun e => ?_)⟩
              · exact ⟨_, rfl, rfl, z, hz, rfl⟩
              · exact ⟨rfl, 0, by omega, rfl⟩
            · rintro v H' ⟨rfl, x2, hx2, rfl⟩
              refine ⟨_, rfl, p, _, 0, 0, rfl, rfl, hp2, rfl, ?_⟩
              -- pool[1]
              refine ⟨_, rfl, _, _, _, _, rfl, rfl, .of upd_same, atI_nat (j := 1) rfl, _, rfl, _, _, rfl, rfl, .inr ⟨by decide, by decide⟩, _, _, rfl, rfl, .inl ⟨_, rfl, _, _, rfl, rfl, (by show (0:Int) < 2147483629; decide), _, _, rfl, rfl, ?_⟩⟩
              refine ⟨_, rfl, p, _, 1, 1, rfl, rfl, upd_same, rfl, ?_⟩
              rw [upd_upd]
              refine ⟨⟨npl, x2, _, r, upd_same, by rw [upd_ne npl.symm]; exact hl2, hx2, ?_, ?_, ?_⟩, s2.trans (.wr (by simp)), _, _, _, rfl⟩
              · omega
              · omega
              · simp at hn; omega
      · exact iteF ⟨hP, .refl, _, _, _, rfl⟩
    · rintro σ' H1 ⟨⟨npl, x, y, ns, hp, hl, hx, hy, hy2, hn⟩, e1, a, b, c, rfl⟩
      refine ⟨_, rfl, _, _, _, _, rfl, rfl, .of hp, atI_nat (j := 0) rfl, _, _, rfl, rfl, _, rfl, ite2 (fun e => ?_) (fun e => ?_)⟩
      · refine ⟨_, rfl, _, _, _, _, rfl, rfl, .of hp, atI_nat (j := 0) rfl, .inl ⟨_, rfl, _, rfl, _, _, rfl, rfl, hm, ?_⟩⟩
        refine ⟨_, rfl, _, _, _, _, rfl, rfl, .of hp, atI_nat (j := 0) rfl, _, rfl, _, _, rfl, rfl, ⟨hm, hm2⟩, _, rfl, p, _, 0, 0, rfl, rfl, hp, rfl, ?_⟩
        refine ⟨_, rfl, q _ _ (Int.emod_nonneg _ (by omega)) (Int.emod_lt_of_pos _ hm) ⟨npl, x / m, y, ns, upd_same, by rw [upd_ne npl.symm]; exact hl, Int.ediv_nonneg hx (by omega), hy, hy2, hn⟩ (e1.trans (.wr (by simp)))⟩
      · refine ⟨_, rfl, _, _, _, _, rfl, rfl, .of hp, atI_nat (j := 1) rfl, _, _, rfl, rfl, .inr ⟨by decide, by decide⟩, _, _, rfl, rfl, .inl ⟨_, rfl, _, _, rfl, rfl, (by show (0:Int) < 2147483647; decide), ?_⟩⟩
        refine ⟨_, rfl, p, _, 1, 1, rfl, rfl, hp, rfl, ?_⟩
        have yb : 0 ≤ (y * 48271 + 11) % 2147483647 ∧ (y * 48271 + 11) % 2147483647 < 2147483647 := by omega
        refine ⟨_, rfl, _, _, _, _, rfl, rfl, .of upd_same, atI_nat (j := 1) rfl, _, rfl, _, _, _, _, rfl, rfl, .of upd_same, atI_nat (j := 1) rfl, _, _, rfl, rfl, .inl ⟨by omega, by omega⟩, .inl ⟨_, rfl, _, _, rfl, rfl, (by show (0:Int) < 2147483629; decide), _, _, rfl, rfl, ⟨by decide, by decide⟩, _, rfl, _, _, rfl, rfl, hm, ?_⟩⟩
        exact q _ _ (Int.emod_nonneg _ (by omega)) (Int.emod_lt_of_pos _ hm) ⟨npl, x, _, ns, upd_same, by rw [upd_ne npl.symm]; exact hl, hx, yb.1, by omega, hn⟩ (e1.trans (.wr (by simp)))
/-! ### the same in the value layer -/
def sv_law_draw : S2 := fun a b Po _ => ∃ m : Int, a = .pl ∧ b.s = .p (.int m) ∧ 0 < m ∧ m < 1073741824 ∧ ∀ r : Int, 0 ≤ r → r < m → Po (.p (.int r))
theorem paired2 {R : V → Vl → Prop} {vs : List V} {a b : Vl} (h : Paired R vs [a, b]) : ∃ u v, vs = [u, v] ∧ R u a ∧ R v b := by
  cases h with
  | cons h1 t =>
    cases t with
    | cons h2 t =>
      cases t
      exact ⟨_, _, rfl, h1, h2⟩
theorem pool_pl {P : Pd} {H : Hp} {p l : Addr} {R : List Addr} (k : PoolOk P H) (e : P.ad = p :: l :: R) : ∃ TT, P = ⟨[p, l], TT⟩ ∧ PoolAt H p l ∧ LamX.Tabs TT H := by
  rcases k with rfl | ⟨p', l', TT, rfl, h, t⟩
  · cases e
  · have e : p' :: l' :: TT.map (·.1) = p :: l :: R := e
    cases e
    exact ⟨TT, rfl, h, t⟩
theorem pool_again {H H' : Hp} {p l : Addr} {TT : List (Addr × Str)} (h : PoolAt H p l) (t : LamX.Tabs TT H) (e : Ext [p, l] H H') (h' : PoolAt H' p l) : PoolOk ⟨[p, l], TT⟩ H' := by
  refine .inr ⟨p, l, TT, rfl, h', tabs_ext t e (fun a z w => ?_) fun a z φ w => ?_⟩
  · obtain ⟨q, hq, rfl⟩ := List.mem_map.mp z
    obtain ⟨ps, h1, _⟩ := t q hq
    obtain ⟨_, x, y, ns, h2, h3, _⟩ := h
    rcases List.mem_cons.mp w with w | w
    · rw [w, h2] at h1; cases h1
    · rw [List.mem_singleton.mp w, h3] at h1; cases h1
  · obtain ⟨_, x, y, ns, h2, h3, _⟩ := h
    rcases List.mem_cons.mp z with z | z
    · rw [z, h2] at w; cases w
    · rw [List.mem_singleton.mp z, h3] at w; cases w
theorem int_arg {P : Pd} {S0 : List Addr} {H : Hp} {v : V} {r : Vl} {m : Int} (h : AR K P S0 H v r) (e : r.s = .p (.int m)) : v = .int m := by
  cases r with
  | p d =>
    cases d with
    | int i => cases e; cases h; rfl
    | _ => cases e
  | o d =>
    cases d with
    | int i => cases e; cases h; rfl
    | _ => cases e
  | _ => cases e
theorem okV_law_draw (T : Tx K mg) : FnOk P w K mg base CX0 1 T.law_draw.f T.law_draw.fd ["pool", "many"] (spC K (sv2 sv_law_draw)) := FnOk.weakV (ok_law_draw T) fun vs H Q E ⟨P, S0, rs, Po, kp, ks, ha, hs, q⟩ => by
  unfold sv2 at hs
  split at hs
  · obtain ⟨m, rfl, hb, h0, h1, go⟩ := hs
    obtain ⟨u, v, rfl, ⟨p, l, R, ep, rfl⟩, hv⟩ := paired2 ha
    obtain ⟨TT, rfl, hp, ht⟩ := pool_pl kp ep
    have ev := int_arg hv hb
    subst ev
    refine ⟨p, l, m, rfl, hp, h0, h1, fun r H' r0 r1 h' e => q (.p (.int r)) _ H' (go r r0 r1) (e.mono fun a z => ?_) (pool_again hp ht e h') (.int r)⟩
    exact List.mem_append_left _ z
  · exact hs.elim
/-! ### the law's books, drawn -/
/-- a thing out of a list, or out of a tuple -/
def Vl.anyL : Vl → Option (List D)
  | .k (.L ds) => some ds
  | .p (.tuple ds) => some ds
  | _ => none
def sv_law_pick : S2 := fun a b Po _ => ∃ ds : List D, a = .pl ∧ b.anyL = some ds ∧ 0 < ds.length ∧ ds.length < 1000000 ∧ ∀ d, d ∈ ds → Po (.p d)
theorem sc_law_pick : FnScope ["pool", "things"] ["pool", "things"] (defScope s_law_pick) := ⟨rfl, rfl, rfl, by decide +kernel, rfl, by decide +kernel, by decide +kernel⟩
theorem okV_law_pick (T : Tx K mg) : FnOk P w K mg base CX0 2 T.law_pick.f T.law_pick.fd ["pool", "things"] (spC K (sv2 sv_law_pick)) := by
  refine T.law_pick.F.ok sc_law_pick (fun vs H Q E h => spC_len sv2_len h) (fun cdv A outer s H vs Q E hr h => ?_)
  refine ⟨_, (show PSs _ _ (liftS ⟨K, clT T, E⟩ _) from (vs_one (vs_ret (ve_ix (ix_anyK K) c_ix (ve_var (pv 1)) (ve_call (pe_call (okV_law_draw T) (hr.mono (by decide)) (by rfl) T.law_draw.g T.law_draw.F.kp T.law_draw.b .nil pass0 (va_cons (ve_var (pv 0)) (va_cons (ve_cb (pe_callB (call_len_seqK K) (by rfl) T.n_len PySem.boot_len (va_cons (ve_var (pv 1)) va_nil)) c_len) va_nil))) (fun _ => .nil)) (fun _ _ => rfl))))), enterC2 h ?_⟩
  rintro _ b Po ⟨ds, rfl, hb, h0, h1, h⟩
  have at_ : ∀ r : Int, 0 ≤ r → r < ds.length → ∃ d, d ∈ ds ∧ atI ds r = some d := fun r r0 r1 => by
    obtain ⟨i, rfl⟩ : ∃ i : Nat, r = (i : Int) := ⟨r.toNat, by omega⟩
    obtain ⟨d, hd⟩ := get_lt (xs := ds) (i := i) (by omega)
    exact ⟨d, List.mem_of_getElem? hd, atI_nat hd⟩
  unfold Vl.anyL at hb
  split at hb <;> first | cases hb | skip
  all_goals
    refine ⟨_, rfl, rfl, by omega, by omega, fun r r0 r1 => ?_⟩
    obtain ⟨d, hd, e⟩ := at_ r r0 r1
    exact ⟨d, e, h d hd⟩
end
end Nv
set_option maxHeartbeats 2000000
set_option pp.maxSteps 2500
set_option Elab.async false
set_option linter.all false
set_option maxRecDepth 100000
namespace Nv
open PySem PySem.Spec PyProof.Rows L2
section
variable {P : Program} {w : World} {K : PySem.W.Frag} {mg : Str → Option Value} {base : Heap}
/-! ### things turned -/
def sv_law_turned : S2 := fun a b Po _ => ∃ n : Nat, a = .pl ∧ b = .p (.int (n : Int)) ∧ n ≤ 100000 ∧ ∀ l : List Nat, l.Perm (List.range n) → Po (.f (.L (natsD l)))
theorem natsD_at {l : List Nat} {i k : Nat} (h : l[i]? = some k) : (natsD l)[i]? = some (.int (k : Int)) := by unfold natsD; rw [List.getElem?_map, h]; rfl
theorem natsD_er {l : List Nat} {i : Nat} : (natsD l).eraseIdx i = natsD (l.eraseIdx i) := by
  unfold natsD
  induction l generalizing i with
  | nil => rfl
  | cons a l ih =>
    cases i with
    | zero => rfl
    | succ i => rw [List.map_cons, List.eraseIdx_cons_succ, List.eraseIdx_cons_succ, List.map_cons, ih]
theorem perm_er {l : List Nat} {i k : Nat} (h : l[i]? = some k) : l.Perm (k :: l.eraseIdx i) := by
  induction l generalizing i with
  | nil => simp at h
  | cons a l ih =>
    cases i with
    | zero => cases h; exact .refl _
    | succ i => exact (List.Perm.cons a (ih (by simpa using h))).trans (.swap _ _ _)
/-- one is taken out of the left ones -/
theorem turn_perm {le fo R : List Nat} {i k : Nat} (h : le[i]? = some k) (p : (le ++ fo).Perm R) : (le.eraseIdx i ++ (fo ++ [k])).Perm R := by
  refine List.Perm.trans ?_ p
  have h1 := (perm_er h).append_right fo
  refine List.Perm.trans ?_ h1.symm
  rw [← List.append_assoc]
  exact List.perm_append_comm
theorem sz_le {n m : Nat} (h : n ≤ m) (hm : m ≤ 200000) : n < sizeLine := by rw [sizeLine_eq]; omega
theorem sc_law_turned : FnScope ["pool", "many", "left", "found", "turn"] ["pool", "many"] (defScope s_law_turned) := ⟨rfl, rfl, rfl, by decide +kernel, rfl, by decide +kernel, by decide +kernel⟩
theorem okV_law_turned (T : Tx K mg) : FnOk P w K mg base CX0 2 T.law_turned.f T.law_turned.fd ["pool", "many"] (spC K (sv2 sv_law_turned)) := by
  refine T.law_turned.F.ok sc_law_turned (fun vs H Q E h => spC_len sv2_len h) (fun cdv A outer s H vs Q E hr h => ?_)
  refine ⟨_, (show PSs _ _ (liftS ⟨K, clT T, E⟩ _) from (vs_cons (vs_par (ps_par (i := 2) (j := 3) (by rfl) sc_law_turned.nd rfl rfl (by decide) rfl rfl (va_cons (ve_listRg (pe_listRg rfl (by rfl) T.n_list (prg_1 (by rfl) T.n_range (ve_var (pv 1))))) (va_cons (ve_lst va_nil) va_nil)) (by rfl)))
      (vs_cons (vs_for PassesOwn.never rfl (vi_range1 (pi_range1 (by rfl) T.n_range (va_cons (ve_var (pv 1)) va_nil))) (vg_name (pg_name (i := 4) sc_law_turned.nd rfl (.inl rfl)))
        (vs_one (vs_appendPop (ps_expr (pe_bmK K PySem.F.plainAttrs_list PySem.F.slot_list_append PySem.F.type_list_append mt_append (pv 3) (pa_cons (pe_bmK K PySem.F.plainAttrs_list PySem.F.slot_list_pop PySem.F.type_list_pop mt_popAt (pv 2) (pa_cons (ve_call (pe_call (okV_law_draw T) (hr.mono (by decide)) (by rfl) T.law_draw.g T.law_draw.F.kp T.law_draw.b .nil pass0 (va_cons (ve_var (pv 0)) (va_cons (ve_cb (pe_callB (call_len_seqK K) (by rfl) T.n_len PySem.boot_len (va_cons (ve_var (pv 2)) va_nil)) c_len) va_nil))) (fun _ => .nil)) pa_nil)) pa_nil))))))
      (vs_one (vs_retV (pv 3)))))), enterC2 h ?_⟩
  rintro _ _ Po ⟨n, rfl, rfl, hn, h⟩
  refine ⟨⟨by omega, by omega⟩, ?_⟩
  refine ⟨⟨by omega, by omega⟩, fun i ρ => ∃ (le fo : List Nat) (y4 : Sl), ρ = [.pl, .im (.int (n : Int)), .mu (.L (natsD le)), .mu (.L (natsD fo)), y4] ∧ (le ++ fo).Perm (List.range n) ∧ fo.length = i, ⟨List.range n, [], _, (by rw [Int.toNat_natCast]; rfl), by simp, rfl⟩, ?_, ?_⟩
  · rintro i it ρ hit ⟨le, fo, y4, rfl, hp, hl⟩
    obtain ⟨hlt, rfl⟩ := rgI_at hit
    rw [Int.toNat_natCast] at hlt
    have hs : le.length + fo.length = n := by have := hp.length_eq; simpa using this
    refine ⟨by decide, _, rfl, rfl, by rw [natsD_len]; omega, by rw [natsD_len]; omega, fun r r0 r1 => ?_⟩
    rw [natsD_len] at r1
    obtain ⟨k, rfl⟩ : ∃ k : Nat, r = (k : Int) := ⟨r.toNat, by omega⟩
    obtain ⟨x, hx⟩ := get_lt (xs := le) (i := k) (by omega)
    exact ⟨.int (x : Int), r0, by rw [natsD_len]; omega, by rw [Int.toNat_natCast]; exact natsD_at hx, by rw [natsD_len]; omega, by rw [natsD_len]; exact sz_le (m := 100000) (by omega) (by omega), le.eraseIdx k, fo ++ [x], _, by rw [Int.toNat_natCast, natsD_er, natsD_snoc]; rfl, turn_perm hx hp, by simp [hl]⟩
  · rintro ρ ⟨le, fo, y4, rfl, hp, hl⟩
    rw [rgI_len, Int.toNat_natCast] at hl
    have hs : le.length + fo.length = n := by have := hp.length_eq; simpa using this
    have : le = [] := List.length_eq_zero_iff.mp (by omega)
    subst this
    exact h fo hp
/-! ### a book's messages -/
def sv_law_book_messages : S2 := fun a b Po _ => ∃ n : Nat, a = .pl ∧ b = .p (.int (n : Int)) ∧ n ≤ 5 ∧ ∀ l : List Nat, l.length = n → l.Pairwise (· < ·) → (∀ m ∈ l, m ≤ 99) → Po (.f (.L (natsD l)))
theorem nats_ints {ns : List Int} {l : List Nat} (h : ns.Perm (l.map fun n : Nat => (n : Int))) : ∃ m : List Nat, ns = m.map (fun n : Nat => (n : Int)) ∧ m.Perm l := by
  refine ⟨ns.map Int.toNat, ?_, ?_⟩
  · rw [List.map_map]
    refine (List.map_id _).symm.trans (List.map_congr_left fun x hx => ?_)
    obtain ⟨n, _, rfl⟩ := List.mem_map.mp (h.mem_iff.mp hx)
    rfl
  · have := h.map Int.toNat
    rw [List.map_map] at this
    have e : (l.map (Int.toNat ∘ fun n : Nat => (n : Int))) = l := (List.map_congr_left fun x _ => rfl).trans (List.map_id _)
    rw [e] at this
    exact this
theorem strict_of {l : List Nat} (h : l.Pairwise (· ≤ ·)) (nd : l.Nodup) : l.Pairwise (· < ·) := by
  induction l with
  | nil => exact .nil
  | cons a l ih =>
    rw [List.pairwise_cons] at h ⊢
    rw [List.nodup_cons] at nd
    refine ⟨fun x hx => ?_, ih h.2 nd.2⟩
    have := h.1 x hx
    have : a ≠ x := fun z => nd.1 (z ▸ hx)
    omega
theorem sc_law_book_messages : FnScope ["pool", "count", "way", "top", "left", "found", "turn"] ["pool", "count"] (defScope s_law_book_messages) := ⟨rfl, rfl, rfl, by decide +kernel, rfl, by decide +kernel, by decide +kernel⟩
theorem okV_law_book_messages (T : Tx K mg) : FnOk P w K mg base CX0 2 T.law_book_messages.f T.law_book_messages.fd ["pool", "count"] (spC K (sv2 sv_law_book_messages)) := by
  refine T.law_book_messages.F.ok sc_law_book_messages (fun vs H Q E h => spC_len sv2_len h) (fun cdv A outer s H vs Q E hr h => ?_)
  refine ⟨_, (show PSs _ _ (liftS ⟨K, clT T, E⟩ _) from (vs_cons (vs_set (i := 2) sc_law_book_messages.nd rfl (.inl rfl) (ve_call (pe_call (okV_law_draw T) (hr.mono (by decide)) (by rfl) T.law_draw.g T.law_draw.F.kp T.law_draw.b .nil pass0 (va_cons (ve_var (pv 0)) (va_cons ve_int va_nil))) (fun _ => .nil)))
      (vs_cons (vs_setS (i := 3) sc_law_book_messages.nd rfl (.inl rfl) (ve_ix (ix_anyK K) c_ix (ve_lst (va_cons (ve_var (pv 1)) (va_cons (ve_var (pv 1)) (va_cons (ve_cb (pe_callB (call_min2 rfl) (by rfl) T.n_min (by decide +kernel) (va_cons (ve_op op_add c_add (ve_var (pv 1)) ve_int) (va_cons ve_int va_nil))) c_2I) (va_cons ve_int va_nil))))) (ve_var (pv 2)) (fun _ _ => rfl)))
      (vs_cons (vs_par (ps_par (i := 4) (j := 5) (by rfl) sc_law_book_messages.nd rfl rfl (by decide) rfl rfl (va_cons (ve_listRg (pe_listRg rfl (by rfl) T.n_list (prg_1 (by rfl) T.n_range (ve_var (pv 3))))) (va_cons (ve_lst va_nil) va_nil)) (by rfl)))
      (vs_cons (vs_for PassesOwn.never rfl (vi_range1 (pi_range1 (by rfl) T.n_range (va_cons (ve_var (pv 1)) va_nil))) (vg_name (pg_name (i := 6) sc_law_book_messages.nd rfl (.inl rfl)))
        (vs_one (vs_appendPop (ps_expr (pe_bmK K PySem.F.plainAttrs_list PySem.F.slot_list_append PySem.F.type_list_append mt_append (pv 5) (pa_cons (pe_bmK K PySem.F.plainAttrs_list PySem.F.slot_list_pop PySem.F.type_list_pop mt_popAt (pv 4) (pa_cons (ve_if (vt_cmp op_lt c_lt (ve_var (pv 2)) ve_int (nomark _)) (ve_call (pe_call (okV_law_draw T) (hr.mono (by decide)) (by rfl) T.law_draw.g T.law_draw.F.kp T.law_draw.b .nil pass0 (va_cons (ve_var (pv 0)) (va_cons (ve_cb (pe_callB (call_len_seqK K) (by rfl) T.n_len PySem.boot_len (va_cons (ve_var (pv 4)) va_nil)) c_len) va_nil))) (fun _ => .nil)) (ve_op op_sub c_sub (ve_op op_sub c_sub (ve_cb (pe_callB (call_len_seqK K) (by rfl) T.n_len PySem.boot_len (va_cons (ve_var (pv 4)) va_nil)) c_len) ve_int) (ve_call (pe_call (okV_law_draw T) (hr.mono (by decide)) (by rfl) T.law_draw.g T.law_draw.F.kp T.law_draw.b .nil pass0 (va_cons (ve_var (pv 0)) (va_cons ve_int va_nil))) (fun _ => .nil)))) pa_nil)) pa_nil))))))
      (vs_one (vs_ret (ve_cb (pe_callB (cr_sortedK K) (by rfl) T.n_sorted (by decide +kernel) (va_cons (ve_var (pv 5)) va_nil)) c_sorted)))))))), enterC2 h ?_⟩
  rintro _ _ Po ⟨n, rfl, rfl, hn, h⟩
  refine ⟨4, rfl, rfl, by decide, by decide, fun way w0 w4 => ?_⟩
  obtain ⟨top, htop, t1, t2, t3⟩ : ∃ top : Nat, atI [(.int (n : Int) : D), .int (n : Int), .int (if (6 : Int) < (n : Int) + 2 then 6 else (n : Int) + 2), .int 100] way = some (.int (top : Int)) ∧ n ≤ top ∧ top ≤ 100 ∧ (¬ way < 3 → top = 100) := by
    rcases (show way = 0 ∨ way = 1 ∨ way = 2 ∨ way = 3 by omega) with rfl | rfl | rfl | rfl
    · exact ⟨n, rfl, Nat.le_refl _, by omega, fun z => by omega⟩
    · exact ⟨n, rfl, Nat.le_refl _, by omega, fun z => by omega⟩
    · by_cases c : (6 : Int) < (n : Int) + 2
      · exact ⟨6, by rw [if_pos c]; rfl, by omega, by omega, fun z => by omega⟩
      · exact ⟨n + 2, by rw [if_neg c]; rfl, by omega, by omega, fun z => by omega⟩
    · exact ⟨100, rfl, by omega, by omega, fun _ => rfl⟩
  refine ⟨.int (top : Int), htop, ⟨by omega, by omega⟩, ?_⟩
  refine ⟨⟨by omega, by omega⟩, fun i ρ => ∃ (le fo : List Nat) (y6 : Sl), ρ = [.pl, .im (.int (n : Int)), .im (.int way), .im (.int (top : Int)), .mu (.L (natsD le)), .mu (.L (natsD fo)), y6] ∧ (le ++ fo).Perm (List.range top) ∧ fo.length = i, ⟨List.range top, [], _, (by rw [Int.toNat_natCast]; rfl), by simp, rfl⟩, ?_, ?_⟩
  · rintro i it ρ hit ⟨le, fo, y6, rfl, hp, hl⟩
    obtain ⟨hlt, rfl⟩ := rgI_at hit
    rw [Int.toNat_natCast] at hlt
    have hs : le.length + fo.length = top := by have := hp.length_eq; simpa using this
    have go : ∀ k : Nat, k < le.length → ∃ d : D, (0 : Int) ≤ (k : Int) ∧ (k : Int) < ((natsD le).length : Int) ∧ (natsD le)[(k : Int).toNat]? = some d ∧ (natsD le).length < 4611686018427387904 ∧ (natsD fo).length < sizeLine ∧ ∃ (le' fo' : List Nat) (y6' : Sl), ([Sl.pl, .im (.int (n : Int)), .im (.int way), .im (.int (top : Int)), .mu (.L ((natsD le).eraseIdx (k : Int).toNat)), .mu (.L (natsD fo ++ [d])), .im (.int (0 + (i : Int)))] : Env') = [.pl, .im (.int (n : Int)), .im (.int way), .im (.int (top : Int)), .mu (.L (natsD le')), .mu (.L (natsD fo')), y6'] ∧ (le' ++ fo').Perm (List.range top) ∧ fo'.length = i + 1 := fun k hk => by
      obtain ⟨x, hx⟩ := get_lt hk
      exact ⟨.int (x : Int), by omega, by rw [natsD_len]; omega, by rw [Int.toNat_natCast]; exact natsD_at hx, by rw [natsD_len]; omega, by rw [natsD_len]; exact sz_le (m := 100) (by omega) (by omega), le.eraseIdx k, fo ++ [x], _, by rw [Int.toNat_natCast, natsD_er, natsD_snoc], turn_perm hx hp, by simp [hl]⟩
    refine ⟨by decide, ?_⟩
    show if decide (way < 3) = true then _ else _
    by_cases c : way < 3
    · rw [decide_eq_true c]
      refine ⟨_, rfl, rfl, by rw [natsD_len]; omega, by rw [natsD_len]; omega, fun r r0 r1 => ?_⟩
      rw [natsD_len] at r1
      obtain ⟨k, rfl⟩ : ∃ k : Nat, r = (k : Int) := ⟨r.toNat, by omega⟩
      exact go k (by omega)
    · rw [decide_eq_false c]
      refine ⟨3, rfl, rfl, by decide, by decide, fun r r0 r1 => ?_⟩
      have tt := t3 c
      obtain ⟨k, hk⟩ : ∃ k : Nat, (le.length : Int) - 1 - r = (k : Int) := ⟨((le.length : Int) - 1 - r).toNat, by omega⟩
      have := go k (by omega)
      rw [← hk, ← natsD_len] at this
      exact this
  · rintro ρ ⟨le, fo, y6, rfl, hp, hl⟩
    rw [rgI_len, Int.toNat_natCast] at hl
    refine ⟨fo.map fun n : Nat => (n : Int), by unfold natsD; rw [List.map_map]; rfl, by rw [List.length_map]; omega, fun ns hpm hle => ?_⟩
    obtain ⟨m, rfl, hm⟩ := nats_ints hpm
    have nd : (le ++ fo).Nodup := hp.nodup_iff.mpr List.nodup_range
    have hle' : m.Pairwise (· ≤ ·) := by
      rw [List.pairwise_map] at hle
      exact hle.imp fun z => by omega
    have mnd : m.Nodup := hm.nodup_iff.mpr (List.nodup_append.mp nd).2.1
    have := h m (by rw [hm.length_eq]; exact hl) (strict_of hle' mnd) fun x hx => by
      have : x ∈ List.range top := hp.mem_iff.mp (List.mem_append_right _ (hm.mem_iff.mp hx))
      have := List.mem_range.mp this
      omega
    unfold natsD at this
    show Po (.f (.L ((m.map fun n : Nat => (n : Int)).map PyData.int)))
    rw [List.map_map]
    exact this
end
end Nv
set_option maxHeartbeats 2000000
set_option pp.maxSteps 2500
set_option Elab.async false
set_option linter.all false
set_option maxRecDepth 100000
namespace Nv
open PySem PySem.Spec PyProof.Rows L2
section
variable {P : Program} {w : World} {K : PySem.W.Frag} {mg : Str → Option Value} {base : Heap}
/-! ### a book by meeting -/
abbrev lM (s : State) : M := .L (s.map mvD)
def sv_law_book_meeting : S1 := fun a Po _ => ∃ b : Book, a = .k (.LL (b.map lM)) ∧ 1 ≤ b.length ∧ b.length ≤ 1000 ∧ (∀ s, (mvs b s).length ≤ 1000) ∧ (∀ s, ∀ p ∈ mvs b s, p.2 < b.length) ∧ Po (.p (bookD (rename b (ordB b))))
theorem lM_at {b : Book} {s : Nat} (h : s < b.length) : atI (b.map lM) (s : Int) = some (.L ((mvs b s).map mvD)) := atI_nat (by rw [List.getElem?_map, mvs_lt h]; rfl)
theorem natsD_in {l : List Nat} : natsD l = (l.map fun n : Nat => (n : Int)).map PyData.int := by unfold natsD; rw [List.map_map]; rfl
theorem mem_nats {l : List Nat} {n : Nat} : ((n : Int) ∈ l.map fun n : Nat => (n : Int)) ↔ n ∈ l := by
  rw [List.mem_map]
  exact ⟨fun ⟨x, hx, e⟩ => by rw [← show x = n by omega]; exact hx, fun h => ⟨n, h, rfl⟩⟩
theorem idx_nats {l : List Nat} {n : Nat} : (l.map fun n : Nat => (n : Int)).idxOf (n : Int) = l.idxOf n := by
  induction l with
  | nil => rfl
  | cons a l ih =>
    rw [List.map_cons, List.idxOf_cons, List.idxOf_cons, ih]
    by_cases h : a = n
    · subst h; simp
    · have h1 : (a == n) = false := by simpa using h
      have h2 : ((a : Int) == (n : Int)) = false := by simp; omega
      rw [h1, h2]
theorem stB_lt {b : Book} (h1 : 1 ≤ b.length) (hb : ∀ s, ∀ p ∈ mvs b s, p.2 < b.length) : ∀ i, (stB b i).Nodup ∧ ∀ s ∈ stB b i, s < b.length := fun i => by
  have ok := stR_ok (b := b) (st := 0) h1 hb i
  rw [← stR_keys]
  exact ⟨ok.nd, fun s hs => by obtain ⟨q, hq, rfl⟩ := List.mem_map.mp hs; exact ok.lt q hq⟩
theorem stB_le {b : Book} (h1 : 1 ≤ b.length) (hb : ∀ s, ∀ p ∈ mvs b s, p.2 < b.length) (i : Nat) : (stB b i).length ≤ b.length := by
  rw [← stR_keys, List.length_map]
  exact (stR_ok (b := b) (st := 0) h1 hb i).len
theorem addS_ok {b : Book} (h1 : 1 ≤ b.length) (hb : ∀ s, ∀ p ∈ mvs b s, p.2 < b.length) {i s k : Nat} (hs : (stB b i)[i]? = some s) : (addS (stB b i) ((mvs b s).take k)).length ≤ b.length := by
  have h2 := stB_le h1 hb (i + 1)
  rw [stB_step hs] at h2
  have := (List.take_append_drop k (mvs b s))
  rw [← this, addS_append] at h2
  exact Nat.le_trans (addS_pre _ _).length_le h2
theorem sc_law_book_meeting : FnScope ["moves", "found", "at", "message", "to", "state"] ["moves"] (defScope s_law_book_meeting) := ⟨rfl, rfl, rfl, by decide +kernel, rfl, by decide +kernel, by decide +kernel⟩
theorem okV_law_book_meeting (T : Tx K mg) : FnOk P w K mg base CX0 1 T.law_book_meeting.f T.law_book_meeting.fd ["moves"] (spC K (sv1 sv_law_book_meeting)) := by
  refine T.law_book_meeting.F.ok sc_law_book_meeting (fun vs H Q E h => spC_len sv1_len h) (fun cdv A outer s H vs Q E hr h => ?_)
  refine ⟨_, (show PSs _ _ (liftS ⟨K, clT T, E⟩ _) from (vs_cons (vs_set (i := 1) sc_law_book_meeting.nd rfl (.inr rfl) (ve_lst (va_cons ve_int va_nil)))
      (vs_cons (vs_for PassesOwn.never rfl (vi_range1 (pi_range1 (by rfl) T.n_range (va_cons (ve_cb (pe_callB (call_len_seqK K) (by rfl) T.n_len PySem.boot_len (va_cons (ve_var (pv 0)) va_nil)) c_len) va_nil))) (vg_name (pg_name (i := 2) sc_law_book_meeting.nd rfl (.inl rfl)))
        (vs_cons (vs_if (vt_cmp op_eq c_eqS (ve_var (pv 2)) (ve_cb (pe_callB (call_len_seqK K) (by rfl) T.n_len PySem.boot_len (va_cons (ve_var (pv 1)) va_nil)) c_len) (nomark _))
          (vs_one vs_break)
          vs_nil)
        (vs_one (vs_fz 0 (vs_for PassesOwn.never rfl (vi_seq (pi_anyK K (ve_ix (ix_anyK K) c_ix (ve_var (pv 0)) (ve_ix (ix_anyK K) c_ix (ve_var (pv 1)) (ve_var (pv 2)) (fun _ _ => rfl)) (fun _ _ => rfl)))) (vg_tup (pg_tupK (n := 2) K rfl (vgs_cons (vg_name (pg_name (i := 3) sc_law_book_meeting.nd rfl (.inl rfl))) (vgs_cons (vg_name (pg_name (i := 4) sc_law_book_meeting.nd rfl (.inl rfl))) vgs_nil))))
          (vs_one (vs_if (vt_cmp (op_notIn_seqK K) c_notInI (ve_var (pv 4)) (ve_var (pv 1)) (by rfl))
            (vs_one (vs_append (ps_expr (pe_bmK K PySem.F.plainAttrs_list PySem.F.slot_list_append PySem.F.type_list_append mt_append (pv 1) (pa_cons (ve_var (pv 4)) pa_nil)))))
            vs_nil)))))))
      (vs_one (vs_ret (ve_cb (pe_callTy (call_tupZK K) (by rfl) T.n_tuple (by decide +kernel) (va_cons (ve_fz 1 (ve_lc (pe_lc (own := [("state", 5)]) rfl sc_law_book_meeting.nd (vi_seq (pi_anyK K (ve_var (pv 1)))) (blkOk_by (own := [("state", 5)]) (N := ["moves", "found", "at", "message", "to", "state"]) (sc := defScope s_law_book_meeting) (by decide +kernel)) (fun _ _ _ _ _ => (vg_name (pg_name (i := 5) sc_law_book_meeting.nd rfl (.inl rfl)))) (fun _ _ _ _ _ => pts_nil) (fun _ _ _ _ _ => (ve_cb (pe_callTy (call_tupZK K) (by rfl) T.n_tuple (by decide +kernel) (va_cons (ve_fz 0 (ve_lc (pe_lc (own := [("message", 3), ("to", 4)]) rfl sc_law_book_meeting.nd (vi_seq (pi_anyK K (ve_ix (ix_anyK K) c_ix (ve_var (pv 0)) (ve_var (pv 5)) (fun _ _ => rfl)))) (blkOk_by (own := [("message", 3), ("to", 4)]) (by kernel_rfl)) (fun _ _ _ _ _ => (vg_tup (pg_tupK (n := 2) K rfl (vgs_cons (vg_name (pg_name (i := 3) sc_law_book_meeting.nd rfl (.inl rfl))) (vgs_cons (vg_name (pg_name (i := 4) sc_law_book_meeting.nd rfl (.inl rfl))) vgs_nil))))) (fun _ _ _ _ _ => pts_nil) (fun _ _ _ _ _ => (ve_tup (va_cons (ve_var (pv 3)) (va_cons (ve_index (pe_bmK K PySem.F.plainAttrs_list PySem.F.slot_list_index PySem.F.type_list_index (mt_indexK K) (ve_var (pv 1)) (pa_cons (ve_var (pv 4)) pa_nil))) va_nil))))) lift_yes (by decide))) va_nil)) c_tupOf))) lift_yes (by decide))) va_nil)) c_tupOf)))))), enterC1 h ?_⟩
  rintro _ Po ⟨b, rfl, h1, h2, h3, hb, h⟩
  refine ⟨⟨by omega, by rw [List.length_map]; omega⟩, fun i ρ => ∃ y2 y3 y4 y5 : Sl, ρ = [.rd (.LL (b.map lM)), .mu (.L (natsD (stB b i))), y2, y3, y4, y5] ∧ i ≤ (stB b i).length, ⟨_, _, _, _, rfl, Nat.zero_le _⟩, ?_, ?_⟩
  case' refine_1 =>
    rintro i it ρ hit ⟨y2, y3, y4, y5, rfl, hle⟩
    obtain ⟨hlt, rfl⟩ := rgI_at hit
    rw [Int.toNat_natCast, List.length_map] at hlt
    rw [Int.zero_add]
    show if decide ((i : Int) = ((natsD (stB b i)).length : Int)) = true then _ else _
    rw [natsD_len]
    by_cases c : i = (stB b i).length
    rotate_left
    · rw [decide_eq_false (by omega)]
      obtain ⟨s, hs⟩ := get_lt (xs := stB b i) (i := i) (by omega)
      have hsl := (stB_lt h1 hb i).2 s (List.mem_of_getElem? hs)
      refine ⟨.int (s : Int), atI_nat (natsD_at hs), _, lM_at hsl, ?_⟩
      refine ⟨fun k ρ => ∃ y3 y4 y5 : Sl, ρ = [.rd (.LL (b.map lM)), .mu (.L (natsD (addS (stB b i) ((mvs b s).take k)))), .im (.int (i : Int)), y3, y4, y5], ⟨_, _, _, rfl⟩, ?_, ?_⟩
      · rintro k it ρ hkt ⟨y3, y4, y5, rfl⟩
        obtain ⟨p, hp, rfl⟩ := one_at2 hkt
        have st := addS_take hp (rfl : addS (stB b i) ((mvs b s).take k) = _)
        have hlen := addS_ok h1 hb hs (k := k)
        generalize addS (stB b i) ((mvs b s).take k) = F at *
        refine ⟨rfl, F.map (fun n : Nat => (n : Int)), .inr (by rw [natsD_in]; rfl), ?_⟩
        show if (!decide ((p.2 : Int) ∈ F.map fun n : Nat => (n : Int))) = true then _ else _
        by_cases hm : p.2 ∈ F
        · rw [decide_eq_true (mem_nats.mpr hm)]
          rw [if_pos hm] at st
          exact ⟨_, _, _, by rw [st]; rfl⟩
        · rw [decide_eq_false fun z => hm (mem_nats.mp z)]
          rw [if_neg hm] at st
          exact ⟨by rw [natsD_len]; exact sz_le (m := 1000) (by omega) (by omega), _, _, _, by rw [st, ← natsD_snoc]; rfl⟩
      · rintro ρ ⟨y3, y4, y5, rfl⟩
        rw [ones_len, List.length_map, List.take_length, ← stB_step hs]
        have : i + 1 ≤ (stB b (i + 1)).length := by
          have := (stB_pre (b := b) i 1).length_le
          omega
        exact ⟨_, _, _, _, rfl, this⟩
    rw [decide_eq_true (by omega)]
    have hE : ordB b = stB b i := stB_end (by omega) (by omega)
    clear hit hle c
  case' refine_2 =>
    rintro ρ ⟨y2, y3, y4, y5, rfl, hle⟩
    rw [rgI_len, Int.toNat_natCast, List.length_map] at hle ⊢
    have hE : ordB b = stB b b.length := rfl
  all_goals
    rw [← hE]
    have m := metOR h1 hb
    have hlen : (ordB b).length ≤ b.length := stB_le h1 hb _
    refine ⟨by rw [ones_len, natsD_len]; exact sz_le (m := 1000) (by omega) (by omega), fun j acc => acc = ((rename b (ordB b)).take j).map stD, rfl, ?_, ?_⟩
    · rintro j it acc hjt rfl
      obtain ⟨s, hs, rfl⟩ := nat_at hjt
      have hsl := m.lt s (List.mem_of_getElem? hs)
      refine ⟨_, lM_at hsl, ?_⟩
      refine ⟨by simp; exact sz_le (m := 1000) (by have := h3 s; omega) (by omega), fun k acc => acc = (((mvs b s).map fun p => (p.1, (ordB b).idxOf p.2)).take k).map mvD, rfl, ?_, ?_⟩
      · rintro k it acc hkt rfl
        obtain ⟨p, hp, rfl⟩ := one_at2 hkt
        have pin : p.2 ∈ ordB b := m.cl s (List.mem_of_getElem? hs) p (List.mem_of_getElem? hp)
        refine ⟨rfl, (ordB b).map (fun n : Nat => (n : Int)), by rw [natsD_in]; rfl, mem_nats.mpr pin, _, rfl, ?_⟩
        show _ ++ [PyData.tuple [.int (p.1 : Int), .int (((ordB b).map fun n : Nat => (n : Int)).idxOf (p.2 : Int) : Nat)]] = _
        have : ((mvs b s).map fun p => (p.1, (ordB b).idxOf p.2))[k]? = some (p.1, (ordB b).idxOf p.2) := by rw [List.getElem?_map, hp]; rfl
        rw [take_snoc this, List.map_append, idx_nats]
        rfl
      · rintro acc rfl
        rw [ones_len, List.length_map, ← List.length_map (as := mvs b s) (f := fun p => (p.1, (ordB b).idxOf p.2)), List.take_length]
        refine ⟨_, rfl, ?_⟩
        show _ = _
        have : (rename b (ordB b))[j]? = some ((mvs b s).map fun p => (p.1, (ordB b).idxOf p.2)) := by unfold rename; rw [List.getElem?_map, hs]; rfl
        rw [take_snoc this, List.map_append]
        rfl
    · rintro acc rfl
      rw [ones_len, natsD_len, ← rename_len (b := b), List.take_length]
      exact h
/-! ### a book drawn -/
def sv_law_book_drawn : S3 := fun a c d Po _ => ∃ n m : Nat, a = .pl ∧ c = .p (.int (n : Int)) ∧ d = .p (.int (m : Int)) ∧ 1 ≤ n ∧ n ≤ 8 ∧ m ≤ 5 ∧ ∀ b : Book, OkB b → b.length ≤ n → (∀ s ∈ b, s.length ≤ m) → Po (.p (bookD b))
structure StM (n m : Nat) (s : State) : Prop where
  few : s.length ≤ m
  rise : (s.map (·.1)).Pairwise (· < ·)
  msg : ∀ p ∈ s, p.1 ≤ 99
  to : ∀ p ∈ s, p.2 < n
theorem sc_law_book_drawn : FnScope ["pool", "states", "most", "size", "way", "moves", "state", "count", "told", "message", "to", "at"] ["pool", "states", "most"] (defScope s_law_book_drawn) := ⟨rfl, rfl, rfl, by decide +kernel, rfl, by decide +kernel, by decide +kernel⟩
theorem okV_law_book_drawn (T : Tx K mg) : FnOk P w K mg base CX0 3 T.law_book_drawn.f T.law_book_drawn.fd ["pool", "states", "most"] (spC K (sv3 sv_law_book_drawn)) := by
  refine T.law_book_drawn.F.ok sc_law_book_drawn (fun vs H Q E h => spC_len sv3_len h) (fun cdv A outer s H vs Q E hr h => ?_)
  refine ⟨_, (show PSs _ _ (liftS ⟨K, clT T, E⟩ _) from (vs_cons (vs_par3 (ps_par3 (i := 3) (j := 4) (l := 5) rfl sc_law_book_drawn.nd rfl rfl rfl (by decide) (by decide) (by decide) rfl rfl rfl (va_cons (ve_op op_add c_add ve_int (ve_call (pe_call (okV_law_draw T) (hr.mono (by decide)) (by rfl) T.law_draw.g T.law_draw.F.kp T.law_draw.b .nil pass0 (va_cons (ve_var (pv 0)) (va_cons (ve_var (pv 1)) va_nil))) (fun _ => .nil))) (va_cons (ve_call (pe_call (okV_law_draw T) (hr.mono (by decide)) (by rfl) T.law_draw.g T.law_draw.F.kp T.law_draw.b .nil pass0 (va_cons (ve_var (pv 0)) (va_cons ve_int va_nil))) (fun _ => .nil)) (va_cons ve_lst0 va_nil))) (by rfl)))
      (vs_cons (vs_for PassesOwn.never rfl (vi_range1 (pi_range1 (by rfl) T.n_range (va_cons (ve_var (pv 3)) va_nil))) (vg_name (pg_name (i := 6) sc_law_book_drawn.nd rfl (.inl rfl)))
        (vs_cons (vs_set (i := 7) sc_law_book_drawn.nd rfl (.inl rfl) (ve_call (pe_call (okV_law_pick T) (hr.mono (by decide)) (by rfl) T.law_pick.g T.law_pick.F.kp T.law_pick.b .nil pass0 (va_cons (ve_var (pv 0)) (va_cons (ve_lst (va_cons ve_int (va_cons ve_int (va_cons ve_int (va_cons ve_int (va_cons (ve_cb (pe_callB (call_min2 rfl) (by rfl) T.n_min (by decide +kernel) (va_cons ve_int (va_cons (ve_var (pv 2)) va_nil))) c_2I) (va_cons (ve_call (pe_call (okV_law_draw T) (hr.mono (by decide)) (by rfl) T.law_draw.g T.law_draw.F.kp T.law_draw.b .nil pass0 (va_cons (ve_var (pv 0)) (va_cons (ve_op op_add c_add (ve_var (pv 2)) ve_int) va_nil))) (fun _ => .nil)) va_nil))))))) va_nil))) (fun _ => .nil)))
        (vs_cut (vs_if (PW.pt (vw_and (vt_cmp op_gt c_gt (ve_var (pv 4)) ve_int (nomark _)) (pw_and1 (vt_cmp op_eq c_eqS (ve_var (pv 6)) (ve_op op_sub c_sub (ve_var (pv 3)) ve_int) (nomark _)))))
          (vs_one (vs_set (i := 7) sc_law_book_drawn.nd rfl (.inl rfl) ve_int))
          vs_nil)
        (vs_cons (vs_set (i := 8) sc_law_book_drawn.nd rfl (.inl rfl) (ve_lst va_nil))
        (vs_cons (vs_for PassesOwn.never rfl (vi_seq (pi_anyK K (ve_call (pe_call (okV_law_book_messages T) (hr.mono (by decide)) (by rfl) T.law_book_messages.g T.law_book_messages.F.kp T.law_book_messages.b .nil pass0 (va_cons (ve_var (pv 0)) (va_cons (ve_cb (pe_callB (call_min2 rfl) (by rfl) T.n_min (by decide +kernel) (va_cons (ve_var (pv 7)) (va_cons (ve_var (pv 2)) va_nil))) c_2I) va_nil))) (fun _ => .nil)))) (vg_name (pg_name (i := 9) sc_law_book_drawn.nd rfl (.inl rfl)))
          (vs_cons (vs_set (i := 10) sc_law_book_drawn.nd rfl (.inl rfl) (ve_call (pe_call (okV_law_draw T) (hr.mono (by decide)) (by rfl) T.law_draw.g T.law_draw.F.kp T.law_draw.b .nil pass0 (va_cons (ve_var (pv 0)) (va_cons (ve_var (pv 3)) va_nil))) (fun _ => .nil)))
          (vs_cut (vs_if (PW.pt (vw_and (vt_cmp op_gt c_gt (ve_var (pv 4)) ve_int (nomark _)) (pw_and1 (vt_cmp op_lt c_lt (ve_var (pv 6)) (ve_op op_sub c_sub (ve_var (pv 3)) ve_int) (nomark _)))))
            (vs_one (vs_set (i := 10) sc_law_book_drawn.nd rfl (.inl rfl) (ve_op op_add c_add (ve_op op_add c_add (ve_var (pv 6)) ve_int) (ve_call (pe_call (okV_law_draw T) (hr.mono (by decide)) (by rfl) T.law_draw.g T.law_draw.F.kp T.law_draw.b .nil pass0 (va_cons (ve_var (pv 0)) (va_cons (ve_op op_sub c_sub (ve_op op_sub c_sub (ve_var (pv 3)) ve_int) (ve_var (pv 6))) va_nil))) (fun _ => .nil)))))
            vs_nil)
          (vs_one (vs_append (ps_expr (pe_bmK K PySem.F.plainAttrs_list PySem.F.slot_list_append PySem.F.type_list_append mt_append (pv 8) (pa_cons (ve_tup (va_cons (ve_var (pv 9)) (va_cons (ve_var (pv 10)) va_nil))) pa_nil))))))))
        (vs_cut (vs_if (PW.pt (vw_and (vt_cmp op_gt c_gt (ve_var (pv 4)) ve_int (nomark _)) (pw_and1 (vt_cmp (op_neDK K hr.units) c_neD (ve_var (pv 8)) (ve_lst va_nil) (nomark _)))))
          (vs_cons (vs_set (i := 11) sc_law_book_drawn.nd rfl (.inl rfl) (ve_call (pe_call (okV_law_draw T) (hr.mono (by decide)) (by rfl) T.law_draw.g T.law_draw.F.kp T.law_draw.b .nil pass0 (va_cons (ve_var (pv 0)) (va_cons (ve_cb (pe_callB (call_len_seqK K) (by rfl) T.n_len PySem.boot_len (va_cons (ve_var (pv 8)) va_nil)) c_len) va_nil))) (fun _ => .nil)))
          (vs_one (vs_store (ps_asg (ve_tup (va_cons (ve_ix (ix_anyK K) c_ix (ve_ix (ix_anyK K) c_ix (ve_var (pv 8)) (ve_var (pv 11)) (fun _ _ => rfl)) ve_int (fun _ _ => rfl)) (va_cons (ve_if (vt_cmp op_lt c_lt (ve_var (pv 4)) ve_int (nomark _)) (ve_op op_mod c_mod (ve_cb (pe_callTy call_int1 (by rfl) T.n_int (by decide +kernel) (va_cons (ve_op op_add c_add (ve_var (pv 6)) ve_int) va_nil)) c_int) (ve_var (pv 3))) (ve_cb (pe_callB (call_min2 rfl) (by rfl) T.n_min (by decide +kernel) (va_cons (ve_op op_add c_add (ve_var (pv 6)) ve_int) (va_cons (ve_op op_sub c_sub (ve_var (pv 3)) ve_int) va_nil))) c_2I)) va_nil))) (pg_sub (pv 8) (ve_var (pv 11)) set_list)))))
          vs_nil)
        (vs_one (vs_appendV (ps_expr (pe_bmK K PySem.F.plainAttrs_list PySem.F.slot_list_append PySem.F.type_list_append mt_append (pv 5) (pa_cons (pv 8) pa_nil)))))))))))
      (vs_one (vs_ret (ve_call (pe_call (okV_law_book_meeting T) (hr.mono (by decide)) (by rfl) T.law_book_meeting.g T.law_book_meeting.F.kp T.law_book_meeting.b .nil pass0 (va_cons (ve_var (pv 5)) va_nil)) (fun _ => .nil))))))), enterC3 h ?_⟩
  rintro _ _ _ Po ⟨n, m, rfl, rfl, rfl, hn1, hn, hm, h⟩
  refine ⟨_, rfl, rfl, by omega, by omega, fun r r0 r1 => ?_⟩
  refine ⟨6, rfl, rfl, by decide, by decide, fun way w0 w6 => ?_⟩
  obtain ⟨sz, hsz, hs1, hs2⟩ : ∃ sz : Nat, 1 + r = (sz : Int) ∧ 1 ≤ sz ∧ sz ≤ n := ⟨(1 + r).toNat, by omega, by omega, by omega⟩
  refine ⟨⟨by omega, by omega⟩, fun i ρ => ∃ (bs : Book) (y6 y7 y8 y9 y10 y11 : Sl), ρ = [.pl, .im (.int (n : Int)), .im (.int (m : Int)), .im (.int (sz : Int)), .im (.int way), .mu (.LL (bs.map lM)), y6, y7, y8, y9, y10, y11] ∧ bs.length = i ∧ ∀ s ∈ bs, StM sz m s, ⟨[], _, _, _, _, _, _, by rw [← hsz]; rfl, rfl, by simp⟩, ?_, ?_⟩
  · rintro i it ρ hit ⟨bs, y6, y7, y8, y9, y10, y11, rfl, hbl, hbs⟩
    obtain ⟨hlt, rfl⟩ := rgI_at hit
    rw [hsz, Int.toNat_natCast] at hlt
    rw [Int.zero_add]
    refine ⟨_, rfl, rfl, by omega, by omega, fun r2 r20 r21 => ⟨_, rfl, rfl, by simp, by show (6 : Nat) < 1000000; omega, fun d hd => ?_⟩⟩
    obtain ⟨c, rfl, hc⟩ : ∃ c : Nat, d = .int (c : Int) ∧ c ≤ 5 := by
      simp only [List.mem_cons, List.not_mem_nil, or_false] at hd
      rcases hd with rfl | rfl | rfl | rfl | rfl | rfl
      · exact ⟨1, rfl, by omega⟩
      · exact ⟨1, rfl, by omega⟩
      · exact ⟨2, rfl, by omega⟩
      · exact ⟨2, rfl, by omega⟩
      · by_cases z : (m : Int) < 2
        · exact ⟨m, by rw [if_pos z], by omega⟩
        · exact ⟨2, by rw [if_neg z]; rfl, by omega⟩
      · exact ⟨r2.toNat, by rw [Int.toNat_of_nonneg r20], by omega⟩
    refine ⟨fun ρ => ∃ c : Nat, c ≤ 5 ∧ ρ = [.pl, .im (.int (n : Int)), .im (.int (m : Int)), .im (.int (sz : Int)), .im (.int way), .mu (.LL (bs.map lM)), .im (.int (i : Int)), .im (.int (c : Int)), y8, y9, y10, y11], ?_, ?_⟩
    · show if decide (3 < way) = true then _ else _
      by_cases z : 3 < way
      · rw [decide_eq_true z]
        show if decide ((i : Int) = (sz : Int) - 1) = true then _ else _
        by_cases z2 : (i : Int) = (sz : Int) - 1
        · rw [decide_eq_true z2]
          exact ⟨0, by omega, rfl⟩
        · rw [decide_eq_false z2]
          exact ⟨c, hc, rfl⟩
      · rw [decide_eq_false z]
        exact ⟨c, hc, rfl⟩
    rintro ρ ⟨c, hc, rfl⟩
    obtain ⟨k, hk, k1, k2⟩ : ∃ k : Nat, (if (m : Int) < (c : Int) then (m : Int) else (c : Int)) = (k : Int) ∧ k ≤ m ∧ k ≤ 5 := by
      by_cases z : (m : Int) < (c : Int)
      · exact ⟨m, by rw [if_pos z], by omega, by omega⟩
      · exact ⟨c, by rw [if_neg z], by omega, by omega⟩
    refine ⟨k, rfl, congrArg (fun z => Vl.p (.int z)) hk, k2, fun l hl hrise h99 => ?_⟩
    refine ⟨fun j ρ => ∃ (t : State) (y9 y10 y11 : Sl), ρ = [.pl, .im (.int (n : Int)), .im (.int (m : Int)), .im (.int (sz : Int)), .im (.int way), .mu (.LL (bs.map lM)), .im (.int (i : Int)), .im (.int (c : Int)), .mu (.L (t.map mvD)), y9, y10, y11] ∧ t.map (·.1) = l.take j ∧ ∀ p ∈ t, p.2 < sz, ⟨[], _, _, _, rfl, rfl, by simp⟩, ?_, ?_⟩
    · rintro j it ρ hjt ⟨t, y9, y10, y11, rfl, htl, hto⟩
      obtain ⟨x, hx, rfl⟩ := nat_at hjt
      have hjl := (List.getElem?_eq_some_iff.mp hx).1
      refine ⟨_, rfl, rfl, by omega, by omega, fun r3 r30 r31 => ?_⟩
      obtain ⟨q, rfl⟩ : ∃ q : Nat, r3 = (q : Int) := ⟨r3.toNat, by omega⟩
      refine ⟨fun ρ => ∃ q : Nat, q < sz ∧ ρ = [.pl, .im (.int (n : Int)), .im (.int (m : Int)), .im (.int (sz : Int)), .im (.int way), .mu (.LL (bs.map lM)), .im (.int (i : Int)), .im (.int (c : Int)), .mu (.L (t.map mvD)), .im (.int (x : Int)), .im (.int (q : Int)), y11], ?_, ?_⟩
      · show if decide (3 < way) = true then _ else _
        by_cases z : 3 < way
        · rw [decide_eq_true z]
          show if decide ((i : Int) < (sz : Int) - 1) = true then _ else _
          by_cases z2 : (i : Int) < (sz : Int) - 1
          · rw [decide_eq_true z2]
            refine ⟨_, rfl, rfl, by omega, by omega, fun r4 r40 r41 => ⟨((i : Int) + 1 + r4).toNat, by omega, ?_⟩⟩
            have : (((i : Int) + 1 + r4).toNat : Int) = (i : Int) + 1 + r4 := Int.toNat_of_nonneg (by omega)
            rw [this]
            rfl
          · rw [decide_eq_false z2]
            exact ⟨q, by omega, rfl⟩
        · rw [decide_eq_false z]
          exact ⟨q, by omega, rfl⟩
      · rintro ρ ⟨q, hq, rfl⟩
        have tl : t.length ≤ 5 := by have := congrArg List.length htl; simp at this; omega
        refine ⟨by rw [List.length_map]; exact sz_le (m := 5) tl (by omega), t ++ [(x, q)], _, _, _, by rw [List.map_append]; rfl, by rw [List.map_append, take_snoc hx, htl]; rfl, fun p hp => ?_⟩
        rcases List.mem_append.mp hp with hp | hp
        · exact hto p hp
        · rw [List.mem_singleton.mp hp]; exact hq
    · rintro ρ ⟨t, y9, y10, y11, rfl, htl, hto⟩
      rw [ones_len, natsD_len, List.take_length] at htl
      have tm : StM sz m t := ⟨by have := congrArg List.length htl; simp at this; omega, by rw [htl]; exact hrise, fun p hp => h99 _ (by rw [← htl]; exact List.mem_map.mpr ⟨p, hp, rfl⟩), hto⟩
      refine ⟨fun ρ => ∃ (t : State) (y11 : Sl), StM sz m t ∧ ρ = [.pl, .im (.int (n : Int)), .im (.int (m : Int)), .im (.int (sz : Int)), .im (.int way), .mu (.LL (bs.map lM)), .im (.int (i : Int)), .im (.int (c : Int)), .mu (.L (t.map mvD)), y9, y10, y11], ?_, ?_⟩
      · show if decide (1 < way) = true then _ else _
        by_cases z : 1 < way
        · rw [decide_eq_true z]
          refine ⟨shaped_mvs t, rfl, ?_⟩
          show if (!PyData.eqv (.list (t.map mvD)) (.list [])) = true then _ else _
          rw [eqv_mvs_nil]
          by_cases z2 : t = []
          · rw [decide_eq_true z2]
            exact ⟨t, _, tm, rfl⟩
          · rw [decide_eq_false z2]
            have tpos : 0 < t.length := List.length_pos_iff.mpr z2
            have t5 := tm.few
            refine ⟨_, rfl, rfl, by rw [List.length_map]; omega, by rw [List.length_map]; omega, fun r5 r50 r51 => ?_⟩
            rw [List.length_map] at r51
            obtain ⟨a, rfl⟩ : ∃ a : Nat, r5 = (a : Int) := ⟨r5.toNat, by omega⟩
            obtain ⟨p, hp⟩ := get_lt (xs := t) (i := a) (by omega)
            have pm := List.mem_of_getElem? hp
            have fin : ∀ v : Nat, v < sz → ∃ j, ixN (t.map mvD).length (a : Int) = some j ∧ ∃ (t' : State) (y11 : Sl), StM sz m t' ∧ ([Sl.pl, .im (.int (n : Int)), .im (.int (m : Int)), .im (.int (sz : Int)), .im (.int way), .mu (.LL (bs.map lM)), .im (.int (i : Int)), .im (.int (c : Int)), .mu (.L ((t.map mvD).set j (.tuple [.int (p.1 : Int), .int (v : Int)]))), y9, y10, .im (.int (a : Int))] : Env') = [.pl, .im (.int (n : Int)), .im (.int (m : Int)), .im (.int (sz : Int)), .im (.int way), .mu (.LL (bs.map lM)), .im (.int (i : Int)), .im (.int (c : Int)), .mu (.L (t'.map mvD)), y9, y10, y11] := fun v hv => by
              refine ⟨a, ixNat (by rw [List.length_map]; omega), t.set a (p.1, v), _, ⟨by rw [List.length_set]; exact tm.few, ?_, fun q hq => ?_, fun q hq => ?_⟩, by rw [List.map_set]; rfl⟩
              · rw [List.map_set]
                have : (t.map (·.1)).set a p.1 = t.map (·.1) := by
                  have e : (t.map (·.1))[a]? = some p.1 := by rw [List.getElem?_map, hp]; rfl
                  obtain ⟨h1, h2⟩ := List.getElem?_eq_some_iff.mp e
                  rw [← h2, List.set_getElem_self]
                rw [this]
                exact tm.rise
              · rcases List.mem_or_eq_of_mem_set hq with hq | rfl
                · exact tm.msg q hq
                · exact tm.msg p pm
              · rcases List.mem_or_eq_of_mem_set hq with hq | rfl
                · exact tm.to q hq
                · exact hv
            refine ⟨mvD p, atI_nat (by rw [List.getElem?_map, hp]; rfl), _, rfl, ?_⟩
            show if decide (way < 4) = true then _ else _
            by_cases z3 : way < 4
            · rw [decide_eq_true z3]
              refine ⟨by omega, ?_⟩
              have : ((((i : Int) + 1) % (sz : Int)).toNat : Int) = ((i : Int) + 1) % (sz : Int) := Int.toNat_of_nonneg (Int.emod_nonneg _ (by omega))
              have lt := Int.emod_lt_of_pos ((i : Int) + 1) (show (0 : Int) < sz by omega)
              have := fin (((i : Int) + 1) % (sz : Int)).toNat (by omega)
              rw [‹((((i : Int) + 1) % (sz : Int)).toNat : Int) = _›] at this
              exact this
            · rw [decide_eq_false z3]
              obtain ⟨v, hv, hv2⟩ : ∃ v : Nat, (if (sz : Int) - 1 < (i : Int) + 1 then (sz : Int) - 1 else (i : Int) + 1) = (v : Int) ∧ v < sz := by
                by_cases z4 : (sz : Int) - 1 < (i : Int) + 1
                · exact ⟨sz - 1, by rw [if_pos z4]; omega, by omega⟩
                · exact ⟨i + 1, by rw [if_neg z4]; omega, by omega⟩
              have := fin v hv2
              rw [← hv] at this
              exact this
        · rw [decide_eq_false z]
          exact ⟨t, _, tm, rfl⟩
      · rintro ρ ⟨t, y11, tm, rfl⟩
        refine ⟨by decide, by rw [List.length_map]; exact sz_le (m := 8) (by omega) (by omega), bs ++ [t], _, _, _, _, _, _, by rw [List.map_append]; rfl, by simp [hbl], fun s hs => ?_⟩
        rcases List.mem_append.mp hs with hs | hs
        · exact hbs s hs
        · rw [List.mem_singleton.mp hs]; exact tm
  · rintro ρ ⟨bs, y6, y7, y8, y9, y10, y11, rfl, hbl, hbs⟩
    rw [rgI_len, hsz, Int.toNat_natCast] at hbl
    have to : ∀ s, ∀ p ∈ mvs bs s, p.2 < bs.length := fun s p hp => by
      by_cases hs : s < bs.length
      · rw [hbl]; exact (hbs _ (mvs_mem hs)).to p hp
      · rw [mvs_out (by omega)] at hp; cases hp
    have few : ∀ s, s < bs.length → (mvs bs s).length ≤ 5 ∧ (mvs bs s).length ≤ m := fun s hs => by
      have := (hbs _ (mvs_mem hs)).few
      exact ⟨by omega, this⟩
    have h1 : 1 ≤ bs.length := by omega
    refine ⟨bs, rfl, h1, by omega, fun s => ?_, to, ?_⟩
    · by_cases hs : s < bs.length
      · have := few s hs; omega
      · rw [mvs_out (by omega)]; exact Nat.zero_le _
    · refine h _ ((metOR h1 to).toMet.okB (by omega) fun s hs => ⟨(few s hs).1, (hbs _ (mvs_mem hs)).rise, (hbs _ (mvs_mem hs)).msg⟩) ?_ fun s hs => ?_
      · rw [rename_len]; have := stB_le h1 to bs.length; unfold ordB; omega
      · unfold rename at hs
        obtain ⟨k, hk, rfl⟩ := List.mem_map.mp hs
        rw [List.length_map]
        exact (few k ((metOR h1 to).lt k hk)).2
end
end Nv
set_option maxHeartbeats 2000000
set_option pp.maxSteps 2500
set_option Elab.async false
set_option linter.all false
set_option maxRecDepth 100000
namespace Nv
open PySem PySem.Spec PyProof.Rows L2
section
variable {P : Program} {w : World} {K : PySem.W.Frag} {mg : Str → Option Value} {base : Heap}
/-! ### a row drawn -/
def sv_law_book_row : S3 := fun a c d Po _ => ∃ (b : Book) (n : Nat), a = .pl ∧ c = .p (bookD b) ∧ d = .p (.int (n : Int)) ∧ FormB b ∧ n ≤ 1000 ∧ ∀ (row : List Nat) (t : Nat), walkB b 0 row = some t → t < b.length → row.length ≤ n → Po (.p (rwD row))
theorem walkB_lt {b : Book} (fb : FormB b) : ∀ {r : List Nat} {st t : Nat}, st < b.length → walkB b st r = some t → t < b.length
  | [], st, t, hs, h => by cases h; exact hs
  | m :: r, st, t, hs, h => by
    obtain ⟨u, hu, h⟩ := Option.bind_eq_some_iff.mp h
    obtain ⟨_, _, hm⟩ := next_mem hu
    exact walkB_lt fb (fb.to hm) h
theorem shaped_stD (s : State) : SeqAt.shaped (stD s) = true := by
  have := mvs_depth s
  simp [stD, SeqAt.shaped, PyData.canLay0, mvs_lay, PyData.depth]
  omega
theorem eqv_stD_nil (s : State) : PyData.eqv (stD s) (.tuple []) = decide (s = []) := by
  cases s <;> simp [stD, PyData.eqv, PyData.eqvAll]
theorem sc_law_book_row : FnScope ["pool", "book", "length", "found", "state", "turn", "message"] ["pool", "book", "length"] (defScope s_law_book_row) := ⟨rfl, rfl, rfl, by decide +kernel, rfl, by decide +kernel, by decide +kernel⟩
theorem okV_law_book_row (T : Tx K mg) : FnOk P w K mg base CX0 3 T.law_book_row.f T.law_book_row.fd ["pool", "book", "length"] (spC K (sv3 sv_law_book_row)) := by
  refine T.law_book_row.F.ok sc_law_book_row (fun vs H Q E h => spC_len sv3_len h) (fun cdv A outer s H vs Q E hr h => ?_)
  refine ⟨_, (show PSs _ _ (liftS ⟨K, clT T, E⟩ _) from (vs_cons (vs_parT (is := [3, 4]) rfl (ps_asg (pe_tup (va_cons (ve_tup va_nil) (va_cons ve_int va_nil))) (pg_tupK (n := 2) K rfl (pgs_cons (pg_name (i := 3) sc_law_book_row.nd rfl (.inl rfl)) (pgs_cons (pg_name (i := 4) sc_law_book_row.nd rfl (.inl rfl)) pgs_nil)))) (by decide))
      (vs_cons (vs_for PassesOwn.never rfl (vi_range1 (pi_range1 (by rfl) T.n_range (va_cons (ve_call (pe_call (okV_law_draw T) (hr.mono (by decide)) (by rfl) T.law_draw.g T.law_draw.F.kp T.law_draw.b .nil pass0 (va_cons (ve_var (pv 0)) (va_cons (ve_op op_add c_add (ve_var (pv 2)) ve_int) va_nil))) (fun _ => .nil)) va_nil))) (vg_name (pg_name (i := 5) sc_law_book_row.nd rfl (.inl rfl)))
        (vs_cons (vs_if (vt_cmp (op_eqDK K hr.units) c_eqD (ve_ix (ix_anyK K) c_ix (ve_var (pv 1)) (ve_var (pv 4)) (fun _ _ => rfl)) (ve_tup va_nil) (nomark _))
          (vs_one vs_break)
          vs_nil)
        (vs_cons (vs_asg (ps_asg (ve_call (pe_call (okV_law_pick T) (hr.mono (by decide)) (by rfl) T.law_pick.g T.law_pick.F.kp T.law_pick.b .nil pass0 (va_cons (ve_var (pv 0)) (va_cons (ve_ix (ix_anyK K) c_ix (ve_var (pv 1)) (ve_var (pv 4)) (fun _ _ => rfl)) va_nil))) (fun _ => .nil)) (vg_tup (pg_tupK (n := 2) K rfl (vgs_cons (vg_name (pg_name (i := 6) sc_law_book_row.nd rfl (.inl rfl))) (vgs_cons (vg_name (pg_name (i := 4) sc_law_book_row.nd rfl (.inl rfl))) vgs_nil))))))
        (vs_one (vs_set (i := 3) sc_law_book_row.nd rfl (.inl rfl) (ve_op (op_catAZK K) c_catT (ve_var (pv 3)) (ve_tup (va_cons (ve_var (pv 6)) va_nil))))))))
      (vs_one (vs_ret (ve_var (pv 3))))))), enterC3 h ?_⟩
  rintro _ _ _ Po ⟨b, n, rfl, rfl, rfl, fb, hn, h⟩
  refine ⟨_, rfl, rfl, by omega, by omega, fun r r0 r1 => ?_⟩
  obtain ⟨k, rfl⟩ : ∃ k : Nat, r = (k : Int) := ⟨r.toNat, by omega⟩
  refine ⟨⟨by omega, by omega⟩, fun i ρ => ∃ (row : List Nat) (st : Nat) (y5 y6 : Sl), ρ = [.pl, .im (bookD b), .im (.int (n : Int)), .im (rwD row), .im (.int (st : Int)), y5, y6] ∧ walkB b 0 row = some st ∧ st < b.length ∧ row.length ≤ i, ⟨[], 0, _, _, rfl, rfl, fb.one, Nat.le_refl _⟩, ?_, ?_⟩
  · rintro i it ρ hit ⟨row, st, y5, y6, rfl, hw, hst, hl⟩
    obtain ⟨hlt, rfl⟩ := rgI_at hit
    rw [Int.toNat_natCast] at hlt
    refine ⟨stD (mvs b st), state_at hst, shaped_stD _, rfl, ?_⟩
    show if PyData.eqv (stD (mvs b st)) (.tuple []) = true then _ else _
    rw [eqv_stD_nil]
    by_cases z : mvs b st = []
    · rw [decide_eq_true z]
      exact h row st hw hst (by omega)
    · rw [decide_eq_false z]
      refine ⟨stD (mvs b st), state_at hst, (mvs b st).map mvD, rfl, rfl, by rw [List.length_map]; exact List.length_pos_iff.mpr z, by have := (fb.ok hst).few; rw [List.length_map]; omega, fun d hd => ?_⟩
      obtain ⟨p, hp, rfl⟩ := List.mem_map.mp hd
      have hnext := next_of (fb.ok hst).rise hp
      refine ⟨rfl, by show (row.map _).length + 1 ≤ sizeLine; rw [List.length_map]; exact Nat.le_of_lt (sz_le (m := 1001) (by omega) (by omega)), row ++ [p.1], p.2, _, _, by rw [← rwD_snoc]; rfl, by rw [walkB_app, hw]; show (nextD _ _).bind _ = _; rw [hnext]; rfl, fb.to hp, by simp; omega⟩
  · rintro ρ ⟨row, st, y5, y6, rfl, hw, hst, hl⟩
    rw [rgI_len, Int.toNat_natCast] at hl
    exact h row st hw hst (by omega)
/-! ### lots drawn, layings drawn -/
/-- numbers of at most 32 figures -/
abbrev big31 : Int := 10000000000000000000000000000000
theorem le_big {i : Int} (h : i ≤ 10000000000000000000000000000000) : i ≤ big31 := h
def LotSm (l : Lot) : Prop := ∀ n ∈ l, n ≤ big31
def sv_law_lay_lot : S3 := fun a c d Po _ => ∃ w m : Nat, a = .pl ∧ c = .p (.int (w : Int)) ∧ d = .p (.int (m : Int)) ∧ w ≤ 1000 ∧ m ≤ 1000000 ∧ ∀ l : Lot, LotOk w l → LotSm l → Po (.p (lotD l))
theorem sc_law_lay_lot : FnScope ["pool", "wires", "most", "found", "wire"] ["pool", "wires", "most"] (defScope s_law_lay_lot) := ⟨rfl, rfl, rfl, by decide +kernel, rfl, by decide +kernel, by decide +kernel⟩
theorem okV_law_lay_lot (T : Tx K mg) : FnOk P w K mg base CX0 2 T.law_lay_lot.f T.law_lay_lot.fd ["pool", "wires", "most"] (spC K (sv3 sv_law_lay_lot)) := by
  refine T.law_lay_lot.F.ok sc_law_lay_lot (fun vs H Q E h => spC_len sv3_len h) (fun cdv A outer s H vs Q E hr h => ?_)
  refine ⟨_, (show PSs _ _ (liftS ⟨K, clT T, E⟩ _) from (vs_cons (vs_setOf (ps_setLc (i := 3) (own := [("wire", 4)]) rfl sc_law_lay_lot.nd rfl rfl (sw_true rfl rfl rfl (by decide +kernel)) (vi_range1 (pi_range1 (by rfl) T.n_range (va_cons (ve_var (pv 1)) va_nil))) (blkOk_by (own := [("wire", 4)]) (N := ["pool", "wires", "most", "found", "wire"]) (sc := defScope s_law_lay_lot) (by decide +kernel)) (fun _ _ _ _ _ => (vg_name (pg_name (i := 4) sc_law_lay_lot.nd rfl (.inl rfl)))) (fun _ _ _ _ _ => pts_nil) (fun _ _ _ _ _ => (ve_call (pe_call (okV_law_draw T) (hr.mono (by decide)) (by rfl) T.law_draw.g T.law_draw.F.kp T.law_draw.b .nil pass0 (va_cons (ve_var (pv 0)) (va_cons (ve_op op_add c_add (ve_var (pv 2)) ve_int) va_nil))) (fun _ => .nil)))) (lift_lc (by decide) lift_yes))
      (vs_cons (vs_if (PW.pt (vw_and (vt_cmp op_gt c_gt (ve_var (pv 1)) ve_int (nomark _)) (pw_and1 (vt_cmp op_eq c_eqS (ve_call (pe_call (okV_law_draw T) (hr.mono (by decide)) (by rfl) T.law_draw.g T.law_draw.F.kp T.law_draw.b .nil pass0 (va_cons (ve_var (pv 0)) (va_cons ve_int va_nil))) (fun _ => .nil)) ve_int (nomark _)))))
        (vs_one (vs_store (ps_asg (ve_op op_add c_add (ve_op op_pow c_pow ve_int ve_int) (ve_call (pe_call (okV_law_draw T) (hr.mono (by decide)) (by rfl) T.law_draw.g T.law_draw.F.kp T.law_draw.b .nil pass0 (va_cons (ve_var (pv 0)) (va_cons ve_int va_nil))) (fun _ => .nil))) (pg_sub (pv 3) (ve_call (pe_call (okV_law_draw T) (hr.mono (by decide)) (by rfl) T.law_draw.g T.law_draw.F.kp T.law_draw.b .nil pass0 (va_cons (ve_var (pv 0)) (va_cons (ve_var (pv 1)) va_nil))) (fun _ => .nil)) set_list))))
        vs_nil)
      (vs_one (vs_ret (ve_cb (pe_callTy (call_tupZK K) (by rfl) T.n_tuple (by decide +kernel) (va_cons (ve_var (pv 3)) va_nil)) c_tupOf)))))), enterC3 h ?_⟩
  rintro _ _ _ Po ⟨w, m, rfl, rfl, rfl, hw, hm, h⟩
  refine ⟨⟨by omega, by omega⟩, by rw [rgI_len, Int.toNat_natCast]; exact sz_le (m := 1000) (by omega) (by omega), fun i acc => ∃ l : Lot, acc = l.map PyData.int ∧ l.length = i ∧ ∀ n ∈ l, 0 ≤ n ∧ n ≤ big31, ⟨[], rfl, rfl, by simp⟩, ?_, ?_⟩
  · rintro i it acc hit ⟨l, rfl, hl, h0⟩
    obtain ⟨hlt, rfl⟩ := rgI_at hit
    refine ⟨_, rfl, rfl, by omega, by omega, fun r r0 r1 => ⟨_, rfl, l ++ [r], by rw [List.map_append]; rfl, by simp [hl], fun n hn => ?_⟩⟩
    rcases List.mem_append.mp hn with hn | hn
    · exact h0 n hn
    · rw [List.mem_singleton.mp hn]; exact ⟨r0, le_big (by omega)⟩
  rintro acc ⟨l, rfl, hl, h0⟩
  rw [rgI_len, Int.toNat_natCast] at hl
  show if decide ((0 : Int) < (w : Int)) = true then _ else _
  by_cases z : (0 : Int) < (w : Int)
  · rw [decide_eq_true z]
    refine ⟨40, rfl, rfl, by decide, by decide, fun r r0 r1 => ?_⟩
    show if decide (r = 0) = true then _ else _
    by_cases z2 : r = 0
    · rw [decide_eq_true z2]
      refine ⟨⟨by decide, by decide, by decide⟩, 3, rfl, rfl, by decide, by decide, fun r2 r20 r21 => ?_⟩
      refine ⟨_, rfl, rfl, by omega, by omega, fun r3 r30 r31 => ?_⟩
      obtain ⟨k, rfl⟩ : ∃ k : Nat, r3 = (k : Int) := ⟨r3.toNat, by omega⟩
      refine ⟨k, ixNat (by rw [List.length_map]; omega), ?_⟩
      show Po (.p (.tuple ((l.map PyData.int).set k (.int (10 ^ Int.toNat 30 + r2)))))
      rw [← List.map_set]
      have e30 : (10 : Int) ^ Int.toNat 30 = 1000000000000000000000000000000 := by decide
      have h1 : ∀ n ∈ l.set k (10 ^ Int.toNat 30 + r2), 0 ≤ n ∧ n ≤ big31 := fun n hn => by
        rcases List.mem_or_eq_of_mem_set hn with hn | rfl
        · exact h0 n hn
        · rw [e30]; exact ⟨by omega, le_big (by omega)⟩
      exact h _ ⟨by rw [List.length_set]; exact hl, fun n hn => (h1 n hn).1⟩ fun n hn => (h1 n hn).2
    · rw [decide_eq_false z2]
      exact h l ⟨hl, fun n hn => (h0 n hn).1⟩ fun n hn => (h0 n hn).2
  · rw [decide_eq_false z]
    exact h l ⟨hl, fun n hn => (h0 n hn).1⟩ fun n hn => (h0 n hn).2
theorem cutD_to {α : Type} {xs : List α} {k : Nat} (h : k ≤ xs.length) : cutD xs none (some (k : Int)) = xs.take k := by
  unfold cutD
  rw [HT.sIx_none, HT.sIx_nat, List.drop_zero, Nat.sub_zero]
  congr 1
  omega
theorem cutD_from {α : Type} {xs : List α} {k : Nat} (h : k ≤ xs.length) : cutD xs (some (k : Int)) none = xs.drop k := by
  unfold cutD
  rw [HT.sIx_none, HT.sIx_nat, Nat.min_eq_left h]
  exact List.take_of_length_le (by simp)
def sv_law_lay_full : S3 := sv_law_lay_lot
theorem sc_law_lay_full : FnScope ["pool", "wires", "most", "found", "at"] ["pool", "wires", "most"] (defScope s_law_lay_full) := ⟨rfl, rfl, rfl, by decide +kernel, rfl, by decide +kernel, by decide +kernel⟩
theorem okV_law_lay_full (T : Tx K mg) : FnOk P w K mg base CX0 3 T.law_lay_full.f T.law_lay_full.fd ["pool", "wires", "most"] (spC K (sv3 sv_law_lay_full)) := by
  refine T.law_lay_full.F.ok sc_law_lay_full (fun vs H Q E h => spC_len sv3_len h) (fun cdv A outer s H vs Q E hr h => ?_)
  refine ⟨_, (show PSs _ _ (liftS ⟨K, clT T, E⟩ _) from (vs_cons (vs_set (i := 3) sc_law_lay_full.nd rfl (.inl rfl) (ve_call (pe_call (okV_law_lay_lot T) (hr.mono (by decide)) (by rfl) T.law_lay_lot.g T.law_lay_lot.F.kp T.law_lay_lot.b .nil pass0 (va_cons (ve_var (pv 0)) (va_cons (ve_var (pv 1)) (va_cons (ve_var (pv 2)) va_nil)))) (fun _ => .nil)))
      (vs_cons (vs_if (PW.pt (vw_or (vt_cmp op_eq c_eqS (ve_var (pv 1)) ve_int (nomark _)) (pw_or1 (vt_cmp op_gt c_gt (ve_cb (pe_callB (cr_sumTK K) (by rfl) T.n_sum (by decide +kernel) (va_cons (ve_var (pv 3)) va_nil)) c_sumT) ve_int (nomark _)))))
        (vs_one (vs_ret (ve_var (pv 3))))
        vs_nil)
      (vs_cons (vs_set (i := 4) sc_law_lay_full.nd rfl (.inl rfl) (ve_call (pe_call (okV_law_draw T) (hr.mono (by decide)) (by rfl) T.law_draw.g T.law_draw.F.kp T.law_draw.b .nil pass0 (va_cons (ve_var (pv 0)) (va_cons (ve_var (pv 1)) va_nil))) (fun _ => .nil)))
      (vs_one (vs_ret (ve_op (op_catAZK K) c_catT (ve_op (op_catAZK K) c_catT (ve_slT (ve_var (pv 3)) vo_none (vo_some (ve_var (pv 4))) (sl_tupAZK K)) (ve_tup (va_cons (ve_op op_add c_add ve_int (ve_call (pe_call (okV_law_draw T) (hr.mono (by decide)) (by rfl) T.law_draw.g T.law_draw.F.kp T.law_draw.b .nil pass0 (va_cons (ve_var (pv 0)) (va_cons (ve_cb (pe_callB (call_max2 rfl) (by rfl) T.n_max (by decide +kernel) (va_cons (ve_var (pv 2)) (va_cons ve_int va_nil))) c_2I) va_nil))) (fun _ => .nil))) va_nil))) (ve_slT (ve_var (pv 3)) (vo_some (ve_op op_add c_add (ve_var (pv 4)) ve_int)) vo_none (sl_tupAZK K))))))))), enterC3 h ?_⟩
  rintro _ _ _ Po ⟨w, m, rfl, rfl, rfl, hw, hm, h⟩
  refine ⟨w, m, rfl, rfl, rfl, hw, hm, fun l hl hs => ?_⟩
  show if decide ((w : Int) = 0) = true then _ else _
  by_cases z : (w : Int) = 0
  · rw [decide_eq_true z]
    exact h l hl hs
  · rw [decide_eq_false z]
    refine ⟨l, .inl rfl, ?_⟩
    show if decide (0 < l.sum) = true then _ else _
    by_cases z2 : 0 < l.sum
    · rw [decide_eq_true z2]
      exact h l hl hs
    · rw [decide_eq_false z2]
      refine ⟨_, rfl, rfl, by omega, by omega, fun r r0 r1 => ?_⟩
      obtain ⟨k, rfl⟩ : ∃ k : Nat, r = (k : Int) := ⟨r.toNat, by omega⟩
      have mx : 0 < (if (1 : Int) > (m : Int) then (1 : Int) else (m : Int)) ∧ (if (1 : Int) > (m : Int) then (1 : Int) else (m : Int)) < 1073741824 := by
        by_cases c : (1 : Int) > (m : Int)
        · rw [if_pos c]; omega
        · rw [if_neg c]; omega
      refine ⟨_, rfl, rfl, mx.1, mx.2, fun r r20 r21 => ?_⟩
      have kl : k < l.length := by rw [hl.1]; omega
      have e1 : cutD (l.map PyData.int) none (some (k : Int)) = (l.take k).map PyData.int := by rw [cutD_to (by rw [List.length_map]; omega), List.map_take]
      have e2 : cutD (l.map PyData.int) (some ((k : Int) + 1)) none = (l.drop (k + 1)).map PyData.int := by
        have : (k : Int) + 1 = ((k + 1 : Nat) : Int) := by omega
        rw [this, cutD_from (by rw [List.length_map]; omega), List.map_drop]
      have len : (cutD (l.map PyData.int) none (some (k : Int))).length + 1 ≤ sizeLine := by
        rw [e1, List.length_map, List.length_take]; exact Nat.le_of_lt (sz_le (m := 1001) (by have := hl.1; omega) (by omega))
      refine ⟨len, ?_⟩
      have len2 : (cutD (l.map PyData.int) none (some (k : Int)) ++ [(.int (1 + r) : D)]).length + (cutD (l.map PyData.int) (some ((k : Int) + 1)) none).length ≤ sizeLine := by
        rw [e1, e2]; simp; exact Nat.le_of_lt (sz_le (m := 2001) (by have := hl.1; omega) (by omega))
      refine ⟨len2, ?_⟩
      show Po (.p (.tuple ((cutD (l.map PyData.int) none (some (k : Int)) ++ [(.int (1 + r) : D)]) ++ cutD (l.map PyData.int) (some ((k : Int) + 1)) none)))
      rw [e1, e2]
      have h1 : ∀ n ∈ l.take k ++ [1 + r] ++ l.drop (k + 1), 0 ≤ n ∧ n ≤ big31 := fun n hn => by
        rcases List.mem_append.mp hn with hn | hn
        · rcases List.mem_append.mp hn with hn | hn
          · exact ⟨hl.2 n (List.mem_of_mem_take hn), hs n (List.mem_of_mem_take hn)⟩
          · have r22 := Int.lt_trans r21 mx.2
            rw [List.mem_singleton.mp hn]; exact ⟨by omega, le_big (by omega)⟩
        · exact ⟨hl.2 n (List.mem_of_mem_drop hn), hs n (List.mem_of_mem_drop hn)⟩
      have := h (l.take k ++ [1 + r] ++ l.drop (k + 1)) ⟨by simp; have := hl.1; omega, fun n hn => (h1 n hn).1⟩ fun n hn => (h1 n hn).2
      unfold lotD at this
      rw [List.map_append, List.map_append] at this
      exact this
end
end Nv
set_option maxHeartbeats 2000000
set_option pp.maxSteps 2500
set_option Elab.async false
set_option linter.all false
set_option maxRecDepth 100000
namespace Nv
open PySem PySem.Spec PyProof.Rows L2
section
variable {P : Program} {w : World} {K : PySem.W.Frag} {mg : Str → Option Value} {base : Heap}
/-! ### a laying drawn -/
theorem shaped_mvD (p : Nat × Nat) : SeqAt.shaped (mvD p) = true := by simp [SeqAt.shaped, mvD, PyData.canLay0, PyData.canLayAll0, PyData.depth, PyData.depthAll]
theorem eqv_mvD (p q : Nat × Nat) : PyData.eqv (mvD p) (mvD q) = decide (p = q) := by
  have : PyData.eqv (mvD p) (mvD q) = (decide ((p.1 : Int) = (q.1 : Int)) && decide ((p.2 : Int) = (q.2 : Int))) := by simp [mvD, PyData.eqv, PyData.eqvAll]; rfl
  rw [this]
  by_cases h : p = q
  · subst h; simp
  · rw [decide_eq_false h]
    by_cases h1 : (p.1 : Int) = (q.1 : Int)
    · have : ¬ (p.2 : Int) = (q.2 : Int) := fun h2 => h (Prod.ext (by omega) (by omega))
      rw [decide_eq_false this, Bool.and_false]
    · rw [decide_eq_false h1, Bool.false_and]
/-- the spots of a laying's places: state, copy -/
structure SpOk (n i me : Nat) (sp : List (Nat × Nat)) : Prop where
  z : sp[0]? = some (0, 0)
  lt : ∀ q ∈ sp, q.1 < n
  all : ∀ s, s < i → ∃ q ∈ sp, q.1 = s
  len : sp.length ≤ 1 + i * me
def LaySm (ps : List Plc) : Prop := ∀ p ∈ ps, ∀ m ∈ p.2, LotSm m.2
def sv_law_lay_drawn : S5 := fun a c d e f Po _ => ∃ (b : Book) (w me m : Nat), a = .pl ∧ c = .p (bookD b) ∧ d = .p (.int (w : Int)) ∧ e = .p (.int (me : Int)) ∧ f = .p (.int (m : Int)) ∧ FormB b ∧ w ≤ 6 ∧ 1 ≤ me ∧ me ≤ 100 ∧ m ≤ 1000000 ∧ ∀ ps : List Plc, LayOk b w ps → LaySm ps → ps.length ≤ 1 + b.length * me → Po (.p (layD w ps))
abbrev e12 (b : Book) (w me m : Nat) (s5 y6 y7 y8 y9 y10 y11 y12 y13 y14 : Sl) : Env' := [.pl, .im (bookD b), .im (.int (w : Int)), .im (.int (me : Int)), .im (.int (m : Int)), s5, y6, y7, y8, y9, y10, y11, y12, y13, y14]
theorem mv_at {s : State} {i : Nat} {it : Iv} (h : (((s.map mvD).map Vl.p).map Iv.one)[i]? = some it) : ∃ p, s[i]? = some p ∧ it = .one (.p (mvD p)) := one_at2 h
theorem mvenum_at {l : List (Nat × Nat)} {i : Nat} {it : Iv} (h : (enums ((l.map mvD).map Vl.p))[i]? = some it) : ∃ q, l[i]? = some q ∧ it = .two (.p (.int (i : Int))) (.p (mvD q)) := by
  unfold enums at h
  rw [List.getElem?_map, List.getElem?_zipIdx, List.map_map, List.getElem?_map] at h
  cases e : l[i]? with
  | none => rw [e] at h; cases h
  | some s => rw [e] at h; cases h; exact ⟨s, rfl, by simp⟩
def plSp (sp : List (Nat × Nat)) (k : Nat) : Nat × Nat := sp.getD k (0, 0)
theorem plSp_of {sp : List (Nat × Nat)} {k : Nat} {q : Nat × Nat} (h : sp[k]? = some q) : plSp sp k = q := by
  unfold plSp
  rw [List.getD_eq_getElem?_getD, h]
  rfl
/-- the places made so far -/
structure PlOk (b : Book) (w : Nat) (sp : List (Nat × Nat)) (p : Plc) (s : Nat) : Prop where
  st : p.1 = s
  len : p.2.length = (mvs b s).length
  to : ∀ (i : Nat) (m : Stp) (q : Nat × Nat), p.2[i]? = some m → (mvs b s)[i]? = some q → ∃ r, sp[m.1]? = some r ∧ r.1 = q.2
  lot : ∀ m ∈ p.2, LotOk w m.2
  sm : ∀ m ∈ p.2, LotSm m.2
theorem SpOk.turn {n me : Nat} {sp : List (Nat × Nat)} {l : List Nat} (ok : SpOk n n me sp) (hp : l.Perm (List.range (sp.length - 1))) : SpOk n n me ((0, 0) :: l.map fun a => plSp sp (1 + a)) := by
  have at_ : ∀ a ∈ l, ∃ q, sp[1 + a]? = some q ∧ plSp sp (1 + a) = q := fun a ha => by
    have : a < sp.length - 1 := List.mem_range.mp (hp.mem_iff.mp ha)
    obtain ⟨q, hq⟩ := get_lt (xs := sp) (i := 1 + a) (by omega)
    exact ⟨q, hq, plSp_of hq⟩
  refine ⟨rfl, fun q hq => ?_, fun s hs => ?_, ?_⟩
  · rcases List.mem_cons.mp hq with rfl | hq
    · exact ok.lt _ (List.mem_of_getElem? ok.z)
    · obtain ⟨a, ha, rfl⟩ := List.mem_map.mp hq
      obtain ⟨q, hq, e⟩ := at_ a ha
      rw [e]
      exact ok.lt q (List.mem_of_getElem? hq)
  · obtain ⟨q, hq, e⟩ := ok.all s hs
    obtain ⟨i, hi⟩ := List.mem_iff_getElem?.mp hq
    by_cases i0 : i = 0
    · subst i0
      rw [ok.z] at hi
      cases hi
      exact ⟨(0, 0), by simp, e⟩
    · have hl := (List.getElem?_eq_some_iff.mp hi).1
      have ha : i - 1 ∈ l := hp.mem_iff.mpr (List.mem_range.mpr (by omega))
      have h1 : 1 + (i - 1) = i := by omega
      exact ⟨q, List.mem_cons_of_mem _ (List.mem_map.mpr ⟨i - 1, ha, by rw [h1]; exact plSp_of hi⟩), e⟩
  · have := ok.len
    have e := hp.length_eq
    rw [List.length_range] at e
    have p := (List.getElem?_eq_some_iff.mp ok.z).1
    simp [e]
    omega
/-- places made for spots are a laying's -/
theorem lay_of {b : Book} {w me : Nat} {sp : List (Nat × Nat)} {pl : List Plc} (hw : w ≤ 6) (h8 : b.length ≤ 8) (hm2 : me ≤ 100) (ok : SpOk b.length b.length me sp) (hl : pl.length = sp.length) (hp : ∀ (k : Nat) (p : Plc) (q : Nat × Nat), pl[k]? = some p → sp[k]? = some q → PlOk b w sp p q.1) : LayOk b w pl := by
  have spot : ∀ p ∈ pl, ∃ q ∈ sp, PlOk b w sp p q.1 := fun p hm => by
    obtain ⟨k, hk⟩ := List.mem_iff_getElem?.mp hm
    have := (List.getElem?_eq_some_iff.mp hk).1
    obtain ⟨q, hq⟩ := get_lt (xs := sp) (i := k) (by omega)
    exact ⟨q, List.mem_of_getElem? hq, hp k p q hk hq⟩
  have pos := (List.getElem?_eq_some_iff.mp ok.z).1
  have hsp := ok.len
  have b1 : b.length * me ≤ 8 * 100 := Nat.mul_le_mul h8 hm2
  refine ⟨hw, by omega, by omega, fun p hm => ?_, fun p h0 => ?_, fun p hm => ?_, fun p hm i m q hi hq => ?_, fun p hm m h => ?_⟩
  · obtain ⟨q, hq, po⟩ := spot p hm
    rw [po.st]
    exact ok.lt q hq
  · exact (hp 0 p (0, 0) h0 ok.z).st
  · obtain ⟨q, hq, po⟩ := spot p hm
    rw [po.len, po.st]
  · obtain ⟨q', hq', po⟩ := spot p hm
    rw [po.st] at hq
    obtain ⟨r, hr, e⟩ := po.to i m q hi hq
    have := (List.getElem?_eq_some_iff.mp hr).1
    obtain ⟨p', hp'⟩ := get_lt (xs := pl) (i := m.1) (by omega)
    exact ⟨p', hp', by rw [(hp m.1 p' r hp' hr).st, e]⟩
  · obtain ⟨q, hq, po⟩ := spot p hm
    exact po.lot m h
theorem lay_sm {b : Book} {w me : Nat} {sp : List (Nat × Nat)} {pl : List Plc} (ok : SpOk b.length b.length me sp) (hl : pl.length = sp.length) (hp : ∀ (k : Nat) (p : Plc) (q : Nat × Nat), pl[k]? = some p → sp[k]? = some q → PlOk b w sp p q.1) : LaySm pl := fun p hm => by
  obtain ⟨k, hk⟩ := List.mem_iff_getElem?.mp hm
  have := (List.getElem?_eq_some_iff.mp hk).1
  obtain ⟨q, hq⟩ := get_lt (xs := sp) (i := k) (by omega)
  exact (hp k p q hk hq).sm
theorem sc_law_lay_drawn : FnScope ["pool", "book", "wires", "memory", "most", "spots", "state", "places", "copy", "steps", "message", "to", "place", "at", "spot"] ["pool", "book", "wires", "memory", "most"] (defScope s_law_lay_drawn) := ⟨rfl, rfl, rfl, by decide +kernel, rfl, by decide +kernel, by decide +kernel⟩
theorem okV_law_lay_drawn (T : Tx K mg) : FnOk P w K mg base CX0 4 T.law_lay_drawn.f T.law_lay_drawn.fd ["pool", "book", "wires", "memory", "most"] (spC K (sv5 sv_law_lay_drawn)) := by
  refine T.law_lay_drawn.F.ok sc_law_lay_drawn (fun vs H Q E h => spC_len sv5_len h) (fun cdv A outer s H vs Q E hr h => ?_)
  refine ⟨_, (show PSs _ _ (liftS ⟨K, clT T, E⟩ _) from (vs_cons (vs_set (i := 5) sc_law_lay_drawn.nd rfl (.inr rfl) (ve_lst (va_cons (ve_tup (va_cons ve_int (va_cons ve_int va_nil))) va_nil)))
      (vs_cons (vs_for PassesOwn.never rfl (vi_range1 (pi_range1 (by rfl) T.n_range (va_cons (ve_cb (pe_callB (call_len_seqK K) (by rfl) T.n_len PySem.boot_len (va_cons (ve_var (pv 1)) va_nil)) c_len) va_nil))) (vg_name (pg_name (i := 6) sc_law_lay_drawn.nd rfl (.inr rfl)))
        (vs_one (vs_extend (ps_expr (pe_bmK K PySem.F.plainAttrs_list PySem.F.slot_list_extend PySem.F.type_list_extend mt_extend (pv 5) (pa_cons (ve_lc (pe_lc (own := [("copy", 8)]) rfl sc_law_lay_drawn.nd (vi_range1 (pi_range1 (by rfl) T.n_range (va_cons (ve_op op_add c_add ve_int (ve_call (pe_call (okV_law_draw T) (hr.mono (by decide)) (by rfl) T.law_draw.g T.law_draw.F.kp T.law_draw.b .nil pass0 (va_cons (ve_var (pv 0)) (va_cons (ve_var (pv 3)) va_nil))) (fun _ => .nil))) va_nil))) (blkOk_by (own := [("copy", 8)]) (N := ["pool", "book", "wires", "memory", "most", "spots", "state", "places", "copy", "steps", "message", "to", "place", "at", "spot"]) (sc := defScope s_law_lay_drawn) (by decide +kernel)) (fun _ _ _ _ _ => (vg_name (pg_name (i := 8) sc_law_lay_drawn.nd rfl (.inl rfl)))) (fun _ _ _ _ _ => pts_one (vt_cmp (op_neDK K hr.units) c_neD (ve_tup (va_cons (ve_var (pv 6)) (va_cons (ve_var (pv 8)) va_nil))) (ve_tup (va_cons ve_int (va_cons ve_int va_nil))) (nomark _))) (fun _ _ _ _ _ => (ve_tup (va_cons (ve_var (pv 6)) (va_cons (ve_var (pv 8)) va_nil))))) (fun _ _ _ h => h) (by decide)) pa_nil))))))
      (vs_cons (vs_set (i := 5) sc_law_lay_drawn.nd rfl (.inr rfl) (ve_op op_cat c_catL (ve_lst (va_cons (ve_ix (ix_anyK K) c_ix (ve_var (pv 5)) ve_int (fun _ _ => rfl)) va_nil)) (ve_lc (pe_lc (own := [("at", 13)]) rfl sc_law_lay_drawn.nd (vi_seq (pi_anyK K (ve_call (pe_call (okV_law_turned T) (hr.mono (by decide)) (by rfl) T.law_turned.g T.law_turned.F.kp T.law_turned.b .nil pass0 (va_cons (ve_var (pv 0)) (va_cons (ve_op op_sub c_sub (ve_cb (pe_callB (call_len_seqK K) (by rfl) T.n_len PySem.boot_len (va_cons (ve_var (pv 5)) va_nil)) c_len) ve_int) va_nil))) (fun _ => .nil)))) (blkOk_by (own := [("at", 13)]) (N := ["pool", "book", "wires", "memory", "most", "spots", "state", "places", "copy", "steps", "message", "to", "place", "at", "spot"]) (sc := defScope s_law_lay_drawn) (by decide +kernel)) (fun _ _ _ _ _ => (vg_name (pg_name (i := 13) sc_law_lay_drawn.nd rfl (.inl rfl)))) (fun _ _ _ _ _ => pts_nil) (fun _ _ _ _ _ => (ve_ix (ix_anyK K) c_ix (ve_var (pv 5)) (ve_op op_add c_add ve_int (ve_var (pv 13))) (fun _ _ => rfl)))) lift_yes (by decide))))
      (vs_cons (vs_set (i := 7) sc_law_lay_drawn.nd rfl (.inl rfl) (ve_lst va_nil))
      (vs_cons (vs_fz 5 (vs_for PassesOwn.never rfl (vi_seq (pi_anyK K (ve_var (pv 5)))) (vg_tup (pg_tupK (n := 2) K rfl (vgs_cons (vg_name (pg_name (i := 6) sc_law_lay_drawn.nd rfl (.inr rfl))) (vgs_cons (vg_name (pg_name (i := 8) sc_law_lay_drawn.nd rfl (.inl rfl))) vgs_nil))))
        (vs_cons (vs_set (i := 9) sc_law_lay_drawn.nd rfl (.inl rfl) (ve_lst va_nil))
        (vs_cons (vs_for PassesOwn.never rfl (vi_seq (pi_anyK K (ve_ix (ix_anyK K) c_ix (ve_var (pv 1)) (ve_var (pv 6)) (fun _ _ => rfl)))) (vg_tup (pg_tupK (n := 2) K rfl (vgs_cons (vg_name (pg_name (i := 10) sc_law_lay_drawn.nd rfl (.inl rfl))) (vgs_cons (vg_name (pg_name (i := 11) sc_law_lay_drawn.nd rfl (.inr rfl))) vgs_nil))))
          (vs_cons (vs_set (i := 12) sc_law_lay_drawn.nd rfl (.inl rfl) (ve_call (pe_call (okV_law_pick T) (hr.mono (by decide)) (by rfl) T.law_pick.g T.law_pick.F.kp T.law_pick.b .nil pass0 (va_cons (ve_var (pv 0)) (va_cons (ve_fz 5 (ve_lc (pe_lc (own := [("at", 13), ("spot", 14)]) rfl sc_law_lay_drawn.nd (vi_enumL (pi_enumK K (by rfl) T.n_enumerate (va_cons (ve_var (pv 5)) va_nil))) (blkOk_by (own := [("at", 13), ("spot", 14)]) (N := ["pool", "book", "wires", "memory", "most", "spots", "state", "places", "copy", "steps", "message", "to", "place", "at", "spot"]) (sc := defScope s_law_lay_drawn) (by decide +kernel)) (fun _ _ _ _ _ => (vg_tup (pg_tupK (n := 2) K rfl (vgs_cons (vg_name (pg_name (i := 13) sc_law_lay_drawn.nd rfl (.inl rfl))) (vgs_cons (vg_name (pg_name (i := 14) sc_law_lay_drawn.nd rfl (.inl rfl))) vgs_nil))))) (fun _ _ _ _ _ => pts_one (vt_cmp op_eq c_eqS (ve_ix (ix_anyK K) c_ix (ve_var (pv 14)) ve_int (fun _ _ => rfl)) (ve_var (pv 11)) (nomark _))) (fun _ _ _ _ _ => (ve_var (pv 13)))) (fun _ _ _ h => h) (by decide))) va_nil))) (fun _ => .nil)))
          (vs_one (vs_append (ps_expr (pe_bmK K PySem.F.plainAttrs_list PySem.F.slot_list_append PySem.F.type_list_append mt_append (pv 9) (pa_cons (ve_tup (va_cons (ve_var (pv 12)) (va_cons (ve_call (pe_call (okV_law_lay_full T) (hr.mono (by decide)) (by rfl) T.law_lay_full.g T.law_lay_full.F.kp T.law_lay_full.b .nil pass0 (va_cons (ve_var (pv 0)) (va_cons (ve_var (pv 2)) (va_cons (ve_var (pv 4)) va_nil)))) (fun _ => .nil)) va_nil))) pa_nil)))))))
        (vs_one (vs_append (ps_expr (pe_bmK K PySem.F.plainAttrs_list PySem.F.slot_list_append PySem.F.type_list_append mt_append (pv 7) (pa_cons (ve_tup (va_cons (ve_var (pv 6)) (va_cons (ve_cb (pe_callTy (call_tupZK K) (by rfl) T.n_tuple (by decide +kernel) (va_cons (ve_var (pv 9)) va_nil)) c_tupOf) va_nil))) pa_nil)))))))))
      (vs_one (vs_ret (ve_tup (va_cons (ve_var (pv 2)) (va_cons (ve_cb (pe_callTy (call_tupZK K) (by rfl) T.n_tuple (by decide +kernel) (va_cons (ve_var (pv 7)) va_nil)) c_tupOf) va_nil))))))))))), enterC5 h ?_⟩
  rintro _ _ _ _ _ Po ⟨b, w, me, m, rfl, rfl, rfl, rfl, rfl, fb, hw, hm1, hm2, hm, h⟩
  have h8 := fb.eight
  have h1 := fb.one
  refine ⟨⟨by omega, by rw [List.length_map]; omega⟩, fun i ρ => ∃ (sp : List (Nat × Nat)) (y6 y7 y8 y9 y10 y11 y12 y13 y14 : Sl), ρ = e12 b w me m (.mu (.L (sp.map mvD))) y6 y7 y8 y9 y10 y11 y12 y13 y14 ∧ SpOk b.length i me sp, ⟨[(0, 0)], _, _, _, _, _, _, _, _, _, rfl, rfl, by simp; omega, fun s hs => by omega, by simp⟩, ?_, ?_⟩
  · rintro i it ρ hit ⟨sp, y6, y7, y8, y9, y10, y11, y12, y13, y14, rfl, ok⟩
    obtain ⟨hlt, rfl⟩ := rgI_at hit
    rw [Int.toNat_natCast, List.length_map] at hlt
    rw [Int.zero_add]
    refine ⟨_, rfl, rfl, by omega, by omega, fun r r0 r1 => ?_⟩
    obtain ⟨k, hk, k1, k2⟩ : ∃ k : Nat, 1 + r = (k : Int) ∧ 1 ≤ k ∧ k ≤ me := ⟨(1 + r).toNat, by omega, by omega, by omega⟩
    refine ⟨⟨by omega, by omega⟩, by rw [rgI_len, hk, Int.toNat_natCast]; exact sz_le (m := 100) (by omega) (by omega), fun j acc => ∃ l : List Nat, acc = (l.map fun c => (i, c)).map mvD ∧ l.length ≤ j ∧ (i = 0 ∨ (0 < j → 0 ∈ l)), ⟨[], rfl, Nat.le_refl _, .inr (by omega)⟩, ?_, ?_⟩
    · rintro j it acc hjt ⟨l, rfl, hl, h0⟩
      obtain ⟨_, rfl⟩ := rgI_at hjt
      rw [Int.zero_add]
      refine ⟨shaped_mvD (i, j), rfl, ?_⟩
      show if (!PyData.eqv (mvD (i, j)) (mvD (0, 0))) = true then _ else _
      rw [eqv_mvD]
      by_cases z : (i, j) = (0, 0)
      · rw [decide_eq_true z]
        exact ⟨l, rfl, by omega, .inl (Prod.ext_iff.mp z).1⟩
      · rw [decide_eq_false z]
        refine ⟨_, rfl, l ++ [j], by rw [List.map_append, List.map_append]; rfl, by simp; omega, ?_⟩
        rcases h0 with h0 | h0
        · exact .inl h0
        · refine .inr fun _ => ?_
          by_cases j0 : j = 0
          · subst j0; simp
          · exact List.mem_append_left _ (h0 (by omega))
    · rintro acc ⟨l, rfl, hl, h0⟩
      rw [rgI_len, hk, Int.toNat_natCast] at hl h0
      have hsp := ok.len
      have b1 : i * me ≤ 8 * 100 := Nat.mul_le_mul (by omega) hm2
      refine ⟨by simp; exact Nat.le_of_lt (sz_le (m := 1000) (by omega) (by omega)), sp ++ l.map (fun c => (i, c)), _, _, _, _, _, _, _, _, _, by rw [List.map_append]; rfl, ?_⟩
      refine ⟨by rw [List.getElem?_append_left (List.getElem?_eq_some_iff.mp ok.z).1]; exact ok.z, fun q hq => ?_, fun s hs => ?_, by rw [List.length_append, List.length_map, Nat.succ_mul]; omega⟩
      · rcases List.mem_append.mp hq with hq | hq
        · exact ok.lt q hq
        · obtain ⟨c, _, rfl⟩ := List.mem_map.mp hq
          exact hlt
      · rcases (show s < i ∨ s = i by omega) with z | rfl
        · obtain ⟨q, hq, e⟩ := ok.all s z
          exact ⟨q, List.mem_append_left _ hq, e⟩
        · rcases h0 with rfl | h0
          · exact ⟨(0, 0), List.mem_append_left _ (List.mem_of_getElem? ok.z), rfl⟩
          · exact ⟨(s, 0), List.mem_append_right _ (List.mem_map.mpr ⟨0, h0 (by omega), rfl⟩), rfl⟩
  · rintro ρ ⟨sp, y6, y7, y8, y9, y10, y11, y12, y13, y14, rfl, ok⟩
    rw [rgI_len, Int.toNat_natCast, List.length_map] at ok
    have hsp := ok.len
    have b1 : b.length * me ≤ 8 * 100 := Nat.mul_le_mul (by omega) hm2
    have pos := (List.getElem?_eq_some_iff.mp ok.z).1
    refine ⟨mvD (0, 0), by show atI (sp.map mvD) ((0 : Nat) : Int) = _; exact atI_nat (by rw [List.getElem?_map, ok.z]; rfl), ?_⟩
    refine ⟨sp.length - 1, rfl, congrArg (fun z : Int => Vl.p (.int z)) (show (((sp.map mvD).length : Int) - 1) = ((sp.length - 1 : Nat) : Int) by rw [List.length_map]; omega), by omega, fun l hp => ?_⟩
    refine ⟨by rw [ones_len, natsD_len, hp.length_eq, List.length_range]; exact sz_le (m := 1000) (by omega) (by omega), fun j acc => acc = ((l.take j).map fun a => plSp sp (1 + a)).map mvD, rfl, ?_, ?_⟩
    · rintro j it acc hjt rfl
      obtain ⟨a, ha, rfl⟩ := nat_at hjt
      have : a < sp.length - 1 := List.mem_range.mp (hp.mem_iff.mp (List.mem_of_getElem? ha))
      obtain ⟨q, hq⟩ := get_lt (xs := sp) (i := 1 + a) (by omega)
      refine ⟨mvD q, by show atI (sp.map mvD) (1 + (a : Int)) = _; rw [show (1 : Int) + (a : Int) = ((1 + a : Nat) : Int) by omega]; exact atI_nat (by rw [List.getElem?_map, hq]; rfl), _, rfl, ?_⟩
      show _ = _
      rw [take_snoc ha, List.map_append, List.map_append]
      show _ = _ ++ [mvD (plSp sp (1 + a))]
      rw [plSp_of hq]
    rintro acc rfl
    rw [ones_len, natsD_len, List.take_length]
    have so := ok.turn hp
    have hl2 : l.length = sp.length - 1 := by rw [hp.length_eq, List.length_range]
    have hz : ([mvD (0, 0)] : List D).length + ((l.map fun a => plSp sp (1 + a)).map mvD).length ≤ sizeLine := by
      rw [List.length_map, List.length_map, hl2]
      exact Nat.le_of_lt (sz_le (n := 1 + (sp.length - 1)) (m := 1000) (by omega) (by omega))
    refine ⟨hz, ?_⟩
    have es : [mvD (0, 0)] ++ (l.map fun a => plSp sp (1 + a)).map mvD = ((0, 0) :: l.map fun a => plSp sp (1 + a)).map mvD := rfl
    generalize hsp' : ((0, 0) :: l.map fun a => plSp sp (1 + a)) = sq at *
    have hql : sq.length = sp.length := by rw [← hsp']; simp [hl2]; omega
    refine ⟨fun i ρ => ∃ (pl : List Plc) (y6 y8 y9 y10 y11 y12 y13 y14 : Sl), ρ = e12 b w me m (.rd (.L (sq.map mvD))) y6 (.mu (.L (pl.map plcD))) y8 y9 y10 y11 y12 y13 y14 ∧ pl.length = i ∧ ∀ (k : Nat) (p : Plc) (q : Nat × Nat), pl[k]? = some p → sq[k]? = some q → PlOk b w sq p q.1, ⟨[], _, _, _, _, _, _, _, _, by rw [← es]; rfl, rfl, by simp⟩, ?_, ?_⟩
    · rintro i it ρ hit ⟨pl, y6, y8, y9, y10, y11, y12, y13, y14, rfl, hpl, hpo⟩
      have hit : (((sq.map mvD).map Vl.p).map Iv.one)[i]? = some it := by rw [← es]; exact hit
      obtain ⟨q, hq, rfl⟩ := mv_at hit
      have hqs := so.lt q (List.mem_of_getElem? hq)
      refine ⟨rfl, stD (mvs b q.1), state_at hqs, ?_⟩
      refine ⟨fun j ρ => ∃ (st : List Stp) (y10 y11 y12 y13 y14 : Sl), ρ = e12 b w me m (.rd (.L (sq.map mvD))) (.im (.int (q.1 : Int))) (.mu (.L (pl.map plcD))) (.im (.int (q.2 : Int))) (.mu (.L (st.map stpD))) y10 y11 y12 y13 y14 ∧ st.length = j ∧ (∀ (k : Nat) (x : Stp) (y : Nat × Nat), st[k]? = some x → (mvs b q.1)[k]? = some y → ∃ r, sq[x.1]? = some r ∧ r.1 = y.2) ∧ ∀ x ∈ st, LotOk w x.2 ∧ LotSm x.2, ⟨[], _, _, _, _, _, rfl, rfl, by simp, by simp⟩, ?_, ?_⟩
      · rintro j it ρ hjt ⟨st, y10, y11, y12, y13, y14, rfl, hst, hto, hlo⟩
        obtain ⟨p, hp2, rfl⟩ := mv_at hjt
        have pm := List.mem_of_getElem? hp2
        have pt : p.2 < b.length := fb.to pm
        refine ⟨rfl, ?_⟩
        refine ⟨by simp [enums]; exact sz_le (m := 1000) (by omega) (by omega), fun n acc => ∃ l : List Nat, acc = natsD l ∧ (∀ a ∈ l, ∃ r, sq[a]? = some r ∧ r.1 = p.2) ∧ (∀ a r, a < n → sq[a]? = some r → r.1 = p.2 → a ∈ l) ∧ l.length ≤ n, ⟨[], rfl, by simp, by omega, by simp⟩, ?_, ?_⟩
        · rintro n it acc hnt ⟨l, rfl, hl1, hl2, hl3⟩
          obtain ⟨r, hr, rfl⟩ := mvenum_at hnt
          refine ⟨rfl, .int (r.1 : Int), rfl, ?_⟩
          show if decide ((r.1 : Int) = (p.2 : Int)) = true then _ else _
          by_cases z : r.1 = p.2
          · rw [decide_eq_true (by omega)]
            refine ⟨_, rfl, l ++ [n], natsD_snoc, fun a ha => ?_, fun a r' ha h1 h2 => ?_, by simp; omega⟩
            · rcases List.mem_append.mp ha with ha | ha
              · exact hl1 a ha
              · rw [List.mem_singleton.mp ha]; exact ⟨r, hr, z⟩
            · rcases (show a < n ∨ a = n by omega) with g | rfl
              · exact List.mem_append_left _ (hl2 a r' g h1 h2)
              · simp
          · rw [decide_eq_false (by omega)]
            refine ⟨l, rfl, hl1, fun a r' ha h1 h2 => ?_, by omega⟩
            rcases (show a < n ∨ a = n by omega) with g | rfl
            · exact hl2 a r' g h1 h2
            · rw [hr] at h1
              cases h1
              exact absurd h2 z
        rintro acc ⟨l, rfl, hl1, hl2, hl3⟩
        have el : (enums ((sq.map mvD).map Vl.p)).length = sq.length := by simp [enums]
        rw [el] at hl2 hl3
        have ne : 0 < l.length := by
          obtain ⟨r, hr, e⟩ := so.all p.2 pt
          obtain ⟨i, hi⟩ := List.mem_iff_getElem?.mp hr
          exact List.length_pos_of_mem (hl2 i r (List.getElem?_eq_some_iff.mp hi).1 hi e)
        refine ⟨natsD l, rfl, rfl, by rw [natsD_len]; exact ne, by rw [natsD_len]; omega, fun d hd => ?_⟩
        obtain ⟨a, ha, rfl⟩ := List.mem_map.mp hd
        obtain ⟨r, hr, er⟩ := hl1 a ha
        refine ⟨w, m, rfl, rfl, rfl, by omega, hm, fun lot hlot hbig => ?_⟩
        have hj := (List.getElem?_eq_some_iff.mp hp2).1
        have h5 := (fb.ok hqs).few
        refine ⟨by rw [List.length_map]; exact sz_le (m := 1000) (by omega) (by omega), st ++ [(a, lot)], _, _, _, _, _, by rw [List.map_append]; rfl, by simp [hst], fun k x y hx hy => ?_, fun x hx => ?_⟩
        · rcases (show k < st.length ∨ ¬ k < st.length by omega) with g | g
          · rw [List.getElem?_append_left g] at hx
            exact hto k x y hx hy
          · rw [List.getElem?_append_right (by omega)] at hx
            have k0 : k - st.length = 0 := by
              have := (List.getElem?_eq_some_iff.mp hx).1
              simp at this
              omega
            rw [k0] at hx
            cases hx
            have kj : k = j := by omega
            subst kj
            rw [hp2] at hy
            cases hy
            exact ⟨r, hr, er⟩
        · rcases List.mem_append.mp hx with hx | hx
          · exact hlo x hx
          · rw [List.mem_singleton.mp hx]; exact ⟨hlot, hbig⟩
      · rintro ρ ⟨st, y10, y11, y12, y13, y14, rfl, hst, hto, hlo⟩
        rw [ones_len, List.length_map] at hst
        have hi := (List.getElem?_eq_some_iff.mp hq).1
        refine ⟨by rw [List.length_map]; exact sz_le (m := 1000) (by omega) (by omega), pl ++ [(q.1, st)], _, _, _, _, _, _, _, _, by rw [List.map_append]; rfl, by simp [hpl], fun k p r hk hr => ?_⟩
        rcases (show k < pl.length ∨ ¬ k < pl.length by omega) with g | g
        · rw [List.getElem?_append_left g] at hk
          exact hpo k p r hk hr
        · rw [List.getElem?_append_right (by omega)] at hk
          have k0 : k - pl.length = 0 := by
            have := (List.getElem?_eq_some_iff.mp hk).1
            simp at this
            omega
          rw [k0] at hk
          cases hk
          have ki : k = i := by omega
          subst ki
          rw [hq] at hr
          cases hr
          exact ⟨rfl, hst, hto, fun x hx => (hlo x hx).1, fun x hx => (hlo x hx).2⟩
    · rintro ρ ⟨pl, y6, y8, y9, y10, y11, y12, y13, y14, rfl, hpl, hpo⟩
      have : pl.length = sq.length := by
        have hpl : pl.length = (((sq.map mvD).map Vl.p).map Iv.one).length := by rw [hpl, ← es]
        rw [hpl]
        simp
      exact h pl (lay_of hw h8 hm2 so this hpo) (lay_sm so this hpo) (by have := so.len; omega)
end
end Nv
set_option maxHeartbeats 2000000
set_option pp.maxSteps 2500
set_option Elab.async false
set_option linter.all false
set_option maxRecDepth 100000
namespace Nv
open PySem PySem.Spec PyProof.Rows L2
section
variable {P : Program} {w : World} {K : PySem.W.Frag} {mg : Str → Option Value} {base : Heap}
/-! ### along a laying, as the law goes -/
def sv_law_lay_step : S4 := fun a c d e Po _ => ∃ (b : Book) (w : Nat) (ps : List Plc) (k : Nat) (p : Plc) (i : Int) (m : Stp), Valid b w ps ∧ a = .p (bookD b) ∧ c = .p (layD w ps) ∧ d = .p (.int (k : Int)) ∧ e = .p (.int i) ∧ ps[k]? = some p ∧ nextL b p (.int i) = some m ∧ Po (.p (stpD m))
theorem sc_law_lay_step : FnScope ["book", "laying", "place", "message", "state", "steps", "move"] ["book", "laying", "place", "message"] (defScope s_law_lay_step) := ⟨rfl, rfl, rfl, by decide +kernel, rfl, by decide +kernel, by decide +kernel⟩
theorem okV_law_lay_step (T : Tx K mg) : FnOk P w K mg base CX0 1 T.law_lay_step.f T.law_lay_step.fd ["book", "laying", "place", "message"] (spC K (sv4 sv_law_lay_step)) := by
  refine T.law_lay_step.F.ok sc_law_lay_step (fun vs H Q E h => spC_len sv4_len h) (fun cdv A outer s H vs Q E hr h => ?_)
  refine ⟨_, (show PSs _ _ (liftS ⟨K, clT T, E⟩ _) from (vs_cons (vs_asg (ps_asg (ve_ix (ix_anyK K) c_ix (ve_ix (ix_anyK K) c_ix (ve_var (pv 1)) ve_int (fun _ _ => rfl)) (ve_var (pv 2)) (fun _ _ => rfl)) (vg_tup (pg_tupK (n := 2) K rfl (vgs_cons (vg_name (pg_name (i := 4) sc_law_lay_step.nd rfl (.inl rfl))) (vgs_cons (vg_name (pg_name (i := 5) sc_law_lay_step.nd rfl (.inl rfl))) vgs_nil))))))
      (vs_one (vs_ret (ve_ix (ix_anyK K) c_ix (ve_var (pv 5)) (ve_index (pe_bmK K PySem.F.plainAttrs_list PySem.F.slot_list_index PySem.F.type_list_index (mt_indexK K) (ve_lc (pe_lc (own := [("move", 6)]) rfl sc_law_lay_step.nd (vi_seq (pi_anyK K (ve_ix (ix_anyK K) c_ix (ve_var (pv 0)) (ve_var (pv 4)) (fun _ _ => rfl)))) (blkOk_by (own := [("move", 6)]) (N := ["book", "laying", "place", "message", "state", "steps", "move"]) (sc := defScope s_law_lay_step) (by decide +kernel)) (fun _ _ _ _ _ => (vg_name (pg_name (i := 6) sc_law_lay_step.nd rfl (.inl rfl)))) (fun _ _ _ _ _ => pts_nil) (fun _ _ _ _ _ => (ve_ix (ix_anyK K) c_ix (ve_var (pv 6)) ve_int (fun _ _ => rfl)))) lift_yes (by decide)) (pa_cons (ve_var (pv 3)) pa_nil))) (fun _ _ => rfl)))))), enterC4 h ?_⟩
  rintro _ _ _ _ Po ⟨b, w, ps, k, p, i, m, ⟨fb, ok⟩, rfl, rfl, rfl, rfl, hp, hn, h⟩
  have pm := List.mem_of_getElem? hp
  obtain ⟨h1, h2⟩ := zip_idx (ok.len p pm) hn
  have h5 := (fb.ok (ok.st p pm)).few
  refine ⟨.tuple (ps.map plcD), rfl, plcD p, atI_nat (by rw [List.getElem?_map, hp]; rfl), rfl, ?_⟩
  refine ⟨stD (mvs b p.1), state_at (ok.st p pm), by simp; exact sz_le (m := 1000) (by omega) (by omega), fun j acc => acc = ((mvs b p.1).take j).map fun q => .int (q.1 : Int), rfl, ?_, ?_⟩
  · rintro j it acc hjt rfl
    obtain ⟨q, hq, rfl⟩ := mv_at hjt
    refine ⟨.int (q.1 : Int), rfl, _, rfl, ?_⟩
    show _ = _
    rw [take_snoc hq, List.map_append]
    rfl
  rintro acc rfl
  rw [ones_len, List.length_map, List.take_length]
  refine ⟨(mvs b p.1).map fun q => (q.1 : Int), by rw [List.map_map]; rfl, h1, stpD m, atI_nat ?_, h⟩
  rw [List.getElem?_map, h2]
  rfl
def sv_law_lay_sum : S2 := sv_sum_of
theorem sc_law_lay_sum : FnScope ["one", "two", "a", "b"] ["one", "two"] (defScope s_law_lay_sum) := ⟨rfl, rfl, rfl, by decide +kernel, rfl, by decide +kernel, by decide +kernel⟩
theorem okV_law_lay_sum (T : Tx K mg) : FnOk P w K mg base CX0 1 T.law_lay_sum.f T.law_lay_sum.fd ["one", "two"] (spC K (sv2 sv_law_lay_sum)) := by
  refine T.law_lay_sum.F.ok sc_law_lay_sum (fun vs H Q E h => spC_len sv2_len h) (fun cdv A outer s H vs Q E hr h => ?_)
  refine ⟨_, (show PSs _ _ (liftS ⟨K, clT T, E⟩ _) from (vs_one (vs_ret (ve_cb (pe_callTy (call_tupZK K) (by rfl) T.n_tuple (by decide +kernel) (va_cons (ve_lc (pe_lc (own := [("a", 2), ("b", 3)]) rfl sc_law_lay_sum.nd (vi_zp (pi_zipBK K (by rfl) T.n_zip (va_cons (ve_var (pv 0)) (va_cons (ve_var (pv 1)) va_nil)))) (blkOk_by (own := [("a", 2), ("b", 3)]) (N := ["one", "two", "a", "b"]) (sc := defScope s_law_lay_sum) (by decide +kernel)) (fun _ _ _ _ _ => (vg_tup (pg_tupK (n := 2) K rfl (vgs_cons (vg_name (pg_name (i := 2) sc_law_lay_sum.nd rfl (.inl rfl))) (vgs_cons (vg_name (pg_name (i := 3) sc_law_lay_sum.nd rfl (.inl rfl))) vgs_nil))))) (fun _ _ _ _ _ => pts_nil) (fun _ _ _ _ _ => (ve_op op_add c_add (ve_var (pv 2)) (ve_var (pv 3))))) lift_yes (by decide)) va_nil)) c_tupOf)))), enterC2 h ?_⟩
  rintro _ _ Po ⟨l, m, rfl, rfl, hl, h⟩
  refine ⟨by rw [pairs_len]; simp; exact sz5000 (by omega), fun i acc => acc = ((addL l m).take i).map PyData.int, rfl, ?_, ?_⟩
  · rintro i it acc hit rfl
    obtain ⟨x, y, hx, hy, rfl⟩ := two_at hit
    rw [List.map_map, List.getElem?_map] at hx hy
    obtain ⟨n, hn, rfl⟩ := Option.map_eq_some_iff.mp hx
    obtain ⟨k, hk, rfl⟩ := Option.map_eq_some_iff.mp hy
    refine ⟨rfl, _, rfl, ?_⟩
    show _ = _
    have : (addL l m)[i]? = some (n + k) := by unfold addL; rw [List.getElem?_map, (List.getElem?_zip_eq_some (z := (n, k))).mpr ⟨hn, hk⟩]; rfl
    rw [take_snoc this, List.map_append]
    rfl
  · rintro acc rfl
    have e : (pairs ((l.map PyData.int).map Vl.p) ((m.map PyData.int).map Vl.p)).length = (addL l m).length := by rw [pairs_len]; simp [addL]
    show Po (.p (.tuple _))
    rw [e, List.take_length]
    exact h
def sv_law_lay_walk : S4 := fun a c d e Po _ => ∃ (b : Book) (w : Nat) (ps : List Plc) (k : Nat) (p : Plc) (ds : List D), Valid b w ps ∧ a = .p (bookD b) ∧ c = .p (layD w ps) ∧ d = .p (.int (k : Int)) ∧ e = .p (.tuple ds) ∧ ps[k]? = some p ∧ rowBad b p.1 0 ds = none ∧ Po (.p (.tuple [.int (endL b ps k ds : Int), lotD (sumL w ((walkL b ps k ds).map (·.2)))]))
theorem sc_law_lay_walk : FnScope ["book", "laying", "place", "row", "total", "message", "lot"] ["book", "laying", "place", "row"] (defScope s_law_lay_walk) := ⟨rfl, rfl, rfl, by decide +kernel, rfl, by decide +kernel, by decide +kernel⟩
theorem okV_law_lay_walk (T : Tx K mg) : FnOk P w K mg base CX0 2 T.law_lay_walk.f T.law_lay_walk.fd ["book", "laying", "place", "row"] (spC K (sv4 sv_law_lay_walk)) := by
  refine T.law_lay_walk.F.ok sc_law_lay_walk (fun vs H Q E h => spC_len sv4_len h) (fun cdv A outer s H vs Q E hr h => ?_)
  refine ⟨_, (show PSs _ _ (liftS ⟨K, clT T, E⟩ _) from (vs_cons (vs_set (i := 4) sc_law_lay_walk.nd rfl (.inl rfl) (ve_op (op_repAZK K) c_repT (ve_tup (va_cons ve_int va_nil)) (ve_ix (ix_anyK K) c_ix (ve_var (pv 1)) ve_int (fun _ _ => rfl))))
      (vs_cons (vs_for PassesOwn.never rfl (vi_seq (pi_anyK K (ve_var (pv 3)))) (vg_name (pg_name (i := 5) sc_law_lay_walk.nd rfl (.inl rfl)))
        (vs_cons (vs_asg (ps_asg (ve_call (pe_call (okV_law_lay_step T) (hr.mono (by decide)) (by rfl) T.law_lay_step.g T.law_lay_step.F.kp T.law_lay_step.b .nil pass0 (va_cons (ve_var (pv 0)) (va_cons (ve_var (pv 1)) (va_cons (ve_var (pv 2)) (va_cons (ve_var (pv 5)) va_nil))))) (fun _ => .nil)) (vg_tup (pg_tupK (n := 2) K rfl (vgs_cons (vg_name (pg_name (i := 2) sc_law_lay_walk.nd rfl (.inl rfl))) (vgs_cons (vg_name (pg_name (i := 6) sc_law_lay_walk.nd rfl (.inl rfl))) vgs_nil))))))
        (vs_one (vs_set (i := 4) sc_law_lay_walk.nd rfl (.inl rfl) (ve_call (pe_call (okV_law_lay_sum T) (hr.mono (by decide)) (by rfl) T.law_lay_sum.g T.law_lay_sum.F.kp T.law_lay_sum.b .nil pass0 (va_cons (ve_var (pv 4)) (va_cons (ve_var (pv 6)) va_nil))) (fun _ => .nil))))))
      (vs_one (vs_ret (ve_tup (va_cons (ve_var (pv 2)) (va_cons (ve_var (pv 4)) va_nil)))))))), enterC4 h ?_⟩
  rintro _ _ _ _ Po ⟨b, w, ps, k, p, ds, ⟨fb, ok⟩, rfl, rfl, rfl, rfl, hp, hb, h⟩
  obtain ⟨wl, wk⟩ := ok.walk hp hb
  have w6 := ok.w6
  have e0 : ((List.replicate (w : Int).toNat [(.int 0 : D)]).flatten) = (List.replicate w (0 : Int)).map PyData.int := by rw [Int.toNat_natCast]; simp
  refine ⟨.int (w : Int), rfl, ⟨by omega, by omega, by simp; omega⟩, ?_⟩
  refine ⟨fun i ρ => ∃ (c : Nat) (y5 y6 : Sl), ρ = [.im (bookD b), .im (layD w ps), .im (.int (c : Int)), .im (.tuple ds), .im (lotD (sumL w (((walkL b ps k ds).take i).map (·.2)))), y5, y6] ∧ (k :: (walkL b ps k ds).map (·.1))[i]? = some c, ⟨k, _, _, (by show [_, _, _, _, Sl.im (.tuple (List.replicate (w : Int).toNat [(.int 0 : D)]).flatten), _, _] = _; rw [e0]; rfl), rfl⟩, ?_, ?_⟩
  · rintro i it ρ hit ⟨c, y5, y6, rfl, hc⟩
    obtain ⟨x, hx, rfl⟩ := one_at hit
    obtain ⟨c', m, q, n, h1, h2, rfl, h4, h5⟩ := ok.steps hp hb i x hx
    rw [hc] at h1
    cases h1
    refine ⟨b, w, ps, c, q, n, m, ⟨fb, ok⟩, rfl, rfl, rfl, rfl, h2, h4, rfl, ?_⟩
    have es : sumL w (((walkL b ps k ds).take (i + 1)).map (·.2)) = addL (sumL w (((walkL b ps k ds).take i).map (·.2))) m.2 := by
      rw [take_snoc h5, List.map_append]
      unfold sumL
      rw [List.foldl_append]
      rfl
    refine ⟨sumL w (((walkL b ps k ds).take i).map (·.2)), m.2, rfl, rfl, ?_, m.1, _, _, by rw [es]; rfl, by rw [List.getElem?_cons_succ, List.getElem?_map, h5]; rfl⟩
    unfold sumL
    rw [sumL_len (w := w) (fun l hl => ?_) (List.length_replicate ..)]
    · omega
    · obtain ⟨x, hx, rfl⟩ := List.mem_map.mp hl
      exact (wk x (List.mem_of_mem_take hx)).1.1
  · rintro ρ ⟨c, y5, y6, rfl, hc⟩
    rw [ones_len, ← wl] at hc
    rw [ones_len, ← wl, List.take_length]
    rw [endL_at rfl hc] at h
    exact h
/-! ### lots made nought -/
def sv_law_with_noughts : S2 := fun a c Po _ => ∃ (b : Book) (w : Nat) (ps : List Plc), Valid b w ps ∧ a = .pl ∧ c = .p (layD w ps) ∧ ∀ qs : List Plc, qs.length = ps.length → (∀ (k : Nat) (p : Plc), qs[k]? = some p → ∃ q, ps[k]? = some q ∧ NoP w p q) → Po (.p (layD w qs))
theorem plc_at {l : List Plc} {i : Nat} {it : Iv} (h : (((l.map plcD).map Vl.p).map Iv.one)[i]? = some it) : ∃ p, l[i]? = some p ∧ it = .one (.p (plcD p)) := one_at2 h
theorem stp_at {l : List Stp} {i : Nat} {it : Iv} (h : (((l.map stpD).map Vl.p).map Iv.one)[i]? = some it) : ∃ p, l[i]? = some p ∧ it = .one (.p (stpD p)) := one_at2 h
theorem sc_law_with_noughts : FnScope ["pool", "laying", "wires", "places", "none", "found", "state", "steps", "to", "lot"] ["pool", "laying"] (defScope s_law_with_noughts) := ⟨rfl, rfl, rfl, by decide +kernel, rfl, by decide +kernel, by decide +kernel⟩
theorem okV_law_with_noughts (T : Tx K mg) : FnOk P w K mg base CX0 2 T.law_with_noughts.f T.law_with_noughts.fd ["pool", "laying"] (spC K (sv2 sv_law_with_noughts)) := by
  refine T.law_with_noughts.F.ok sc_law_with_noughts (fun vs H Q E h => spC_len sv2_len h) (fun cdv A outer s H vs Q E hr h => ?_)
  refine ⟨_, (show PSs _ _ (liftS ⟨K, clT T, E⟩ _) from (vs_cons (vs_asg (ps_asg (ve_var (pv 1)) (vg_tup (pg_tupK (n := 2) K rfl (vgs_cons (vg_name (pg_name (i := 2) sc_law_with_noughts.nd rfl (.inl rfl))) (vgs_cons (vg_name (pg_name (i := 3) sc_law_with_noughts.nd rfl (.inl rfl))) vgs_nil))))))
      (vs_cons (vs_parT (is := [4, 5]) rfl (ps_asg (pe_tup (va_cons (ve_op (op_repAZK K) c_repT (ve_tup (va_cons ve_int va_nil)) (ve_var (pv 2))) (va_cons (ve_lst va_nil) va_nil))) (pg_tupK (n := 2) K rfl (pgs_cons (pg_name (i := 4) sc_law_with_noughts.nd rfl (.inr rfl)) (pgs_cons (pg_name (i := 5) sc_law_with_noughts.nd rfl (.inl rfl)) pgs_nil)))) (by decide))
      (vs_cons (vs_for PassesOwn.never rfl (vi_seq (pi_anyK K (ve_var (pv 3)))) (vg_tup (pg_tupK (n := 2) K rfl (vgs_cons (vg_name (pg_name (i := 6) sc_law_with_noughts.nd rfl (.inl rfl))) (vgs_cons (vg_name (pg_name (i := 7) sc_law_with_noughts.nd rfl (.inl rfl))) vgs_nil))))
        (vs_one (vs_append (ps_expr (pe_bmK K PySem.F.plainAttrs_list PySem.F.slot_list_append PySem.F.type_list_append mt_append (pv 5) (pa_cons (ve_tup (va_cons (ve_var (pv 6)) (va_cons (ve_cb (pe_callTy (call_tupZK K) (by rfl) T.n_tuple (by decide +kernel) (va_cons (ve_lc (pe_lc (own := [("to", 8), ("lot", 9)]) rfl sc_law_with_noughts.nd (vi_seq (pi_anyK K (ve_var (pv 7)))) (blkOk_by (own := [("to", 8), ("lot", 9)]) (N := ["pool", "laying", "wires", "places", "none", "found", "state", "steps", "to", "lot"]) (sc := defScope s_law_with_noughts) (by decide +kernel)) (fun _ _ _ _ _ => (vg_tup (pg_tupK (n := 2) K rfl (vgs_cons (vg_name (pg_name (i := 8) sc_law_with_noughts.nd rfl (.inl rfl))) (vgs_cons (vg_name (pg_name (i := 9) sc_law_with_noughts.nd rfl (.inl rfl))) vgs_nil))))) (fun _ _ _ _ _ => pts_nil) (fun _ _ _ _ _ => (ve_tup (va_cons (ve_var (pv 8)) (va_cons (ve_if (vt_cmp op_eq c_eqS (ve_call (pe_call (okV_law_draw T) (hr.mono (by decide)) (by rfl) T.law_draw.g T.law_draw.F.kp T.law_draw.b .nil pass0 (va_cons (ve_var (pv 0)) (va_cons ve_int va_nil))) (fun _ => .nil)) ve_int (nomark _)) (ve_var (pv 4)) (ve_var (pv 9))) va_nil))))) lift_yes (by decide)) va_nil)) c_tupOf) va_nil))) pa_nil))))))
      (vs_one (vs_ret (ve_tup (va_cons (ve_var (pv 2)) (va_cons (ve_cb (pe_callTy (call_tupZK K) (by rfl) T.n_tuple (by decide +kernel) (va_cons (ve_var (pv 5)) va_nil)) c_tupOf) va_nil))))))))), enterC2 h ?_⟩
  rintro _ _ Po ⟨b, w, ps, ⟨fb, ok⟩, rfl, rfl, h⟩
  have w6 := ok.w6
  have n2 := ok.n2
  have e0 : ((List.replicate (w : Int).toNat [(.int 0 : D)]).flatten) = (List.replicate w (0 : Int)).map PyData.int := by rw [Int.toNat_natCast]; simp
  refine ⟨rfl, ⟨by omega, by omega, by simp; omega⟩, ?_⟩
  refine ⟨fun i ρ => ∃ (qs : List Plc) (y6 y7 y8 y9 : Sl), ρ = [.pl, .im (layD w ps), .im (.int (w : Int)), .im (.tuple (ps.map plcD)), .im (lotD (List.replicate w 0)), .mu (.L (qs.map plcD)), y6, y7, y8, y9] ∧ qs.length = i ∧ ∀ (k : Nat) (p : Plc), qs[k]? = some p → ∃ q, ps[k]? = some q ∧ NoP w p q, ⟨[], _, _, _, _, (by show [_, _, _, _, Sl.im (.tuple (List.replicate (w : Int).toNat [(.int 0 : D)]).flatten), _, _, _, _, _] = _; rw [e0]; rfl), rfl, by simp⟩, ?_, ?_⟩
  · rintro i it ρ hit ⟨qs, y6, y7, y8, y9, rfl, hql, hq⟩
    obtain ⟨p, hp, rfl⟩ := plc_at hit
    have pm := List.mem_of_getElem? hp
    have hi := (List.getElem?_eq_some_iff.mp hp).1
    have h5 := (fb.ok (ok.st p pm)).few
    have hlen := ok.len p pm
    refine ⟨rfl, ?_⟩
    refine ⟨by rw [ones_len, List.length_map]; exact sz_le (m := 1000) (by omega) (by omega), fun j acc => ∃ st : List Stp, acc = st.map stpD ∧ st.length = j ∧ ∀ (k : Nat) (m : Stp), st[k]? = some m → ∃ x, p.2[k]? = some x ∧ m.1 = x.1 ∧ (m.2 = x.2 ∨ m.2 = List.replicate w 0), ⟨[], rfl, rfl, by simp⟩, ?_, ?_⟩
    · rintro j it acc hjt ⟨st, rfl, hst, hs⟩
      obtain ⟨m, hm, rfl⟩ := stp_at hjt
      refine ⟨rfl, 6, rfl, rfl, by decide, by decide, fun r r0 r1 => ?_⟩
      have fin : ∀ l : Lot, (l = m.2 ∨ l = List.replicate w 0) → ∃ d, Vl.p (.tuple [.int (m.1 : Int), lotD l]) = .p d ∧ ∃ st' : List Stp, st.map stpD ++ [d] = st'.map stpD ∧ st'.length = j + 1 ∧ ∀ (k : Nat) (m : Stp), st'[k]? = some m → ∃ x, p.2[k]? = some x ∧ m.1 = x.1 ∧ (m.2 = x.2 ∨ m.2 = List.replicate w 0) := fun l hl => by
        refine ⟨_, rfl, st ++ [(m.1, l)], by rw [List.map_append]; rfl, by simp [hst], fun k x hk => ?_⟩
        rcases get_snoc hk with hk | ⟨rfl, rfl⟩
        · exact hs k x hk
        · exact ⟨m, by rw [hst]; exact hm, rfl, hl⟩
      show if decide (r = 0) = true then _ else _
      by_cases z : r = 0
      · rw [decide_eq_true z]
        exact fin _ (.inr rfl)
      · rw [decide_eq_false z]
        exact fin _ (.inl rfl)
    · rintro acc ⟨st, rfl, hst, hs⟩
      rw [ones_len, List.length_map] at hst
      refine ⟨by rw [List.length_map]; exact sz_le (m := 10000) (by omega) (by omega), qs ++ [(p.1, st)], _, _, _, _, by rw [List.map_append]; rfl, by simp [hql], fun k x hk => ?_⟩
      rcases get_snoc hk with hk | ⟨rfl, rfl⟩
      · exact hq k x hk
      · exact ⟨p, by rw [hql]; exact hp, ⟨rfl, hst, hs⟩⟩
  · rintro ρ ⟨qs, y6, y7, y8, y9, rfl, hql, hq⟩
    rw [ones_len, List.length_map] at hql
    exact h qs hql hq
end
end Nv
set_option maxHeartbeats 2000000
set_option pp.maxSteps 2500
set_option Elab.async false
set_option linter.all false
set_option maxRecDepth 100000
namespace Nv
open PySem PySem.Spec PyProof.Rows L2
section
variable {P : Program} {w : World} {K : PySem.W.Frag} {mg : Str → Option Value} {base : Heap}
/-! ### what the law meets -/
def mtD (q : Nat × Row) : D := .tuple [rwD q.2, .int (q.1 : Int)]
def sv_law_met : S2 := fun a c Po _ => ∃ (b : Book) (w : Nat) (ps : List Plc), Valid b w ps ∧ a = .p (bookD b) ∧ c = .p (layD w ps) ∧ Po (.f (.L ((ordR (mvL b ps) 0).map mtD)))
theorem eq_of_perm {l m : List Int} (h : l.Perm m) (hl : l.Pairwise (· ≤ ·)) (hm : m.Pairwise (· < ·)) : l = m :=
  h.eq_of_pairwise (le := (· ≤ ·)) (fun a b _ _ h1 h2 => Int.le_antisymm h1 h2) hl (hm.imp Int.le_of_lt)
theorem rwD_nats (r : Row) : rwD r = .tuple (natsD r) := rfl
theorem natD_at {l : List Nat} {i : Nat} {it : Iv} (h : ((((l.map fun n : Nat => (n : Int)).map PyData.int).map Vl.p).map Iv.one)[i]? = some it) : ∃ s, l[i]? = some s ∧ it = .one (.p (.int (s : Int))) := by
  obtain ⟨y, hy, rfl⟩ := one_at2 h
  rw [List.getElem?_map] at hy
  obtain ⟨x, hx, rfl⟩ := Option.map_eq_some_iff.mp hy
  exact ⟨x, hx, rfl⟩
theorem row_at {L : List (Nat × Row)} {i : Nat} {it : Iv} (h : (((L.map fun q => rwD q.2).map Vl.p).map Iv.one)[i]? = some it) : ∃ q, L[i]? = some q ∧ it = .one (.p (rwD q.2)) := one_at2 h
theorem mt_at {L : List (Nat × Row)} {i : Nat} {it : Iv} (h : (((L.map mtD).map Vl.p).map Iv.one)[i]? = some it) : ∃ q, L[i]? = some q ∧ it = .one (.p (mtD q)) := one_at2 h
theorem stR_pre {b : Book} {st : Nat} (i : Nat) : ∀ k, stR b st i <+: stR b st (i + k)
  | 0 => List.prefix_refl _
  | k + 1 => by
    refine (stR_pre i k).trans ?_
    show _ <+: stR b st (i + k + 1)
    cases h : (stR b st (i + k))[i + k]? with
    | none => rw [stR_rest (List.getElem?_eq_none_iff.mp h) 1]; exact List.prefix_refl _
    | some q => rw [stR_step h]; exact addR_pre _ _ _
abbrev e13 (b : Book) (w : Nat) (ps : List Plc) (s2 s3 y4 s5 y6 y7 y8 y9 y10 y11 y12 : Sl) : Env' := [.im (bookD b), .im (layD w ps), s2, s3, y4, s5, y6, y7, y8, y9, y10, y11, y12]
theorem sc_law_met : FnScope ["book", "laying", "found", "last", "turn", "longer", "row", "place", "message", "there", "to", "some", "other"] ["book", "laying"] (defScope s_law_met) := ⟨rfl, rfl, rfl, by decide +kernel, rfl, by decide +kernel, by decide +kernel⟩
theorem okV_law_met (T : Tx K mg) : FnOk P w K mg base CX0 3 T.law_met.f T.law_met.fd ["book", "laying"] (spC K (sv2 sv_law_met)) := by
  refine T.law_met.F.ok sc_law_met (fun vs H Q E h => spC_len sv2_len h) (fun cdv A outer s H vs Q E hr h => ?_)
  refine ⟨_, (show PSs _ _ (liftS ⟨K, clT T, E⟩ _) from (vs_cons (vs_par (ps_par (i := 2) (j := 3) (by rfl) sc_law_met.nd rfl rfl (by decide) rfl rfl (va_cons (ve_lst (va_cons (ve_tup (va_cons (ve_tup va_nil) (va_cons ve_int va_nil))) va_nil)) (va_cons (ve_lst (va_cons (ve_tup va_nil) va_nil)) va_nil)) (by rfl)))
      (vs_cons (vs_for PassesOwn.never rfl (vi_range1 (pi_range1 (by rfl) T.n_range (va_cons (ve_cb (pe_callB (call_len_seqK K) (by rfl) T.n_len PySem.boot_len (va_cons (ve_ix (ix_anyK K) c_ix (ve_var (pv 1)) ve_int (fun _ _ => rfl)) va_nil)) c_len) va_nil))) (vg_name (pg_name (i := 4) sc_law_met.nd rfl (.inl rfl)))
        (vs_cons (vs_set (i := 5) sc_law_met.nd rfl (.inl rfl) (ve_lst va_nil))
        (vs_cons (vs_fz 3 (vs_for PassesOwn.never rfl (vi_seq (pi_anyK K (ve_var (pv 3)))) (vg_name (pg_name (i := 6) sc_law_met.nd rfl (.inl rfl)))
          (vs_cons (vs_setS (i := 7) sc_law_met.nd rfl (.inl rfl) (ve_ix (ix_anyK K) c_ix (ve_call (pe_call (okV_law_lay_walk T) (hr.mono (by decide)) (by rfl) T.law_lay_walk.g T.law_lay_walk.F.kp T.law_lay_walk.b .nil pass0 (va_cons (ve_var (pv 0)) (va_cons (ve_var (pv 1)) (va_cons ve_int (va_cons (ve_var (pv 6)) va_nil))))) (fun _ => .nil)) ve_int (fun _ _ => rfl)))
          (vs_one (vs_for PassesOwn.never rfl (vi_seq (pi_anyK K (ve_cb (pe_callB (cr_sortedK K) (by rfl) T.n_sorted (by decide +kernel) (va_cons (ve_lc (pe_lc (own := [("message", 8), ("to", 10)]) rfl sc_law_met.nd (vi_seq (pi_anyK K (ve_ix (ix_anyK K) c_ix (ve_var (pv 0)) (ve_ix (ix_anyK K) c_ix (ve_ix (ix_anyK K) c_ix (ve_ix (ix_anyK K) c_ix (ve_var (pv 1)) ve_int (fun _ _ => rfl)) (ve_var (pv 7)) (fun _ _ => rfl)) ve_int (fun _ _ => rfl)) (fun _ _ => rfl)))) (blkOk_by (own := [("message", 8), ("to", 10)]) (N := ["book", "laying", "found", "last", "turn", "longer", "row", "place", "message", "there", "to", "some", "other"]) (sc := defScope s_law_met) (by decide +kernel)) (fun _ _ _ _ _ => (vg_tup (pg_tupK (n := 2) K rfl (vgs_cons (vg_name (pg_name (i := 8) sc_law_met.nd rfl (.inl rfl))) (vgs_cons (vg_name (pg_name (i := 10) sc_law_met.nd rfl (.inl rfl))) vgs_nil))))) (fun _ _ _ _ _ => pts_nil) (fun _ _ _ _ _ => (ve_var (pv 8)))) lift_yes (by decide)) va_nil)) c_sorted))) (vg_name (pg_name (i := 8) sc_law_met.nd rfl (.inl rfl)))
            (vs_cons (vs_setS (i := 9) sc_law_met.nd rfl (.inl rfl) (ve_ix (ix_anyK K) c_ix (ve_call (pe_call (okV_law_lay_walk T) (hr.mono (by decide)) (by rfl) T.law_lay_walk.g T.law_lay_walk.F.kp T.law_lay_walk.b .nil pass0 (va_cons (ve_var (pv 0)) (va_cons (ve_var (pv 1)) (va_cons ve_int (va_cons (ve_op (op_catAZK K) c_catT (ve_var (pv 6)) (ve_tup (va_cons (ve_var (pv 8)) va_nil))) va_nil))))) (fun _ => .nil)) ve_int (fun _ _ => rfl)))
            (vs_one (vs_if (vt_cmp (op_notIn_seqK K) c_notInI (ve_var (pv 9)) (ve_fz 2 (ve_lc (pe_lc (own := [("some", 11), ("other", 12)]) rfl sc_law_met.nd (vi_seq (pi_anyK K (ve_var (pv 2)))) (blkOk_by (own := [("some", 11), ("other", 12)]) (N := ["book", "laying", "found", "last", "turn", "longer", "row", "place", "message", "there", "to", "some", "other"]) (sc := defScope s_law_met) (by decide +kernel)) (fun _ _ _ _ _ => (vg_tup (pg_tupK (n := 2) K rfl (vgs_cons (vg_name (pg_name (i := 11) sc_law_met.nd rfl (.inl rfl))) (vgs_cons (vg_name (pg_name (i := 12) sc_law_met.nd rfl (.inl rfl))) vgs_nil))))) (fun _ _ _ _ _ => pts_nil) (fun _ _ _ _ _ => (ve_var (pv 12)))) lift_yes (by decide))) (by rfl))
              (vs_cons (vs_append (ps_expr (pe_bmK K PySem.F.plainAttrs_list PySem.F.slot_list_append PySem.F.type_list_append mt_append (pv 2) (pa_cons (ve_tup (va_cons (ve_op (op_catAZK K) c_catT (ve_var (pv 6)) (ve_tup (va_cons (ve_var (pv 8)) va_nil))) (va_cons (ve_var (pv 9)) va_nil))) pa_nil))))
              (vs_one (vs_append (ps_expr (pe_bmK K PySem.F.plainAttrs_list PySem.F.slot_list_append PySem.F.type_list_append mt_append (pv 5) (pa_cons (ve_op (op_catAZK K) c_catT (ve_var (pv 6)) (ve_tup (va_cons (ve_var (pv 8)) va_nil))) pa_nil))))))
              vs_nil))))))))
        (vs_one (vs_move (i := 3) sc_law_met.nd rfl (.inl rfl) (pv 5))))))
      (vs_one (vs_retV (pv 2)))))), enterC2 h ?_⟩
  rintro _ _ Po ⟨b, w, ps, ⟨fb, ok⟩, rfl, rfl, h⟩
  have n1 := ok.n1
  have n2 := ok.n2
  obtain ⟨r1, r2, r3⟩ := ok.rows
  generalize hM : mvL b ps = M at *
  have ml : M.length = ps.length := by rw [← hM]; exact mvL_len
  have okR := stR_ok r1 r2
  have al : ∀ i, ∀ q ∈ stR M 0 i, Along b ps q ∧ q.1 < ps.length := by rw [← hM]; exact stR_along fb ok
  obtain ⟨p0, hp0, e0⟩ := ok.p0
  refine ⟨.tuple (ps.map plcD), rfl, ⟨by omega, by rw [List.length_map]; omega⟩, fun i ρ => ∃ (lo : Nat) (y4 s5 y6 y7 y8 y9 y10 y11 y12 : Sl), ρ = e13 b w ps (.mu (.L ((stR M 0 lo).map mtD))) (.mu (.L (((stR M 0 lo).drop lo).map fun q => rwD q.2))) y4 s5 y6 y7 y8 y9 y10 y11 y12 ∧ lo ≤ (stR M 0 lo).length ∧ (i ≤ lo ∨ (stR M 0 lo).length ≤ lo), ⟨0, _, _, _, _, _, _, _, _, _, rfl, Nat.zero_le _, .inl (Nat.le_refl _)⟩, ?_, ?_⟩
  · rintro i it ρ hit ⟨lo, y4, s5, y6, y7, y8, y9, y10, y11, y12, rfl, hlo, hi⟩
    obtain ⟨hlt, rfl⟩ := rgI_at hit
    generalize hS : stR M 0 lo = S at *
    have Sle : S.length ≤ ps.length := by rw [← hS, ← ml]; exact (okR lo).len
    refine ⟨fun j ρ => ∃ (y6 y7 y8 y9 y10 y11 y12 : Sl), ρ = e13 b w ps (.mu (.L ((stR M 0 (lo + j)).map mtD))) (.rd (.L ((S.drop lo).map fun q => rwD q.2))) (.im (.int (0 + (i : Int)))) (.mu (.L (((stR M 0 (lo + j)).drop S.length).map fun q => rwD q.2))) y6 y7 y8 y9 y10 y11 y12, ⟨_, _, _, _, _, _, _, (by rw [Nat.add_zero, hS, List.drop_length]; rfl)⟩, ?_, ?_⟩
    · rintro j it ρ hjt ⟨y6, y7, y8, y9, y10, y11, y12, rfl⟩
      obtain ⟨q, hq, rfl⟩ := row_at hjt
      rw [List.getElem?_drop] at hq
      have hqi : (stR M 0 (lo + j))[lo + j]? = some q := by
        have := stR_pre (b := M) (st := 0) lo j
        rw [hS] at this
        obtain ⟨t, ht⟩ := this
        rw [← ht, List.getElem?_append_left (List.getElem?_eq_some_iff.mp hq).1]
        exact hq
      obtain ⟨qa, ql⟩ := al _ q (List.mem_of_getElem? hqi)
      obtain ⟨p, hp⟩ := get_lt ql
      have pm := List.mem_of_getElem? hp
      have pst := ok.st p pm
      have mv5 := (fb.ok pst).few
      have stp := stR_step hqi
      have em : mvs M q.1 = mvP b p := by rw [← hM]; exact mvL_at hp
      rw [em] at stp
      have hqi2 := (List.getElem?_eq_some_iff.mp hqi).1
      have rl := stR_rows (lo + j) q (List.mem_of_getElem? hqi)
      have Sle2 : (stR M 0 (lo + j)).length ≤ ps.length := by rw [← ml]; exact (okR (lo + j)).len
      refine ⟨b, w, ps, 0, p0, natsD q.2, ⟨fb, ok⟩, rfl, rfl, rfl, rfl, hp0, by rw [e0]; exact qa.ok, .int (endL b ps 0 (natsD q.2) : Int), rfl, ?_⟩
      rw [qa.to]
      -- the messages there
      refine ⟨.tuple (ps.map plcD), rfl, plcD p, atI_nat (by rw [List.getElem?_map, hp]; rfl), .int (p.1 : Int), rfl, stD (mvs b p.1), state_at pst, by simp; exact sz_le (m := 1000) (by omega) (by omega), fun k acc => acc = ((mvs b p.1).take k).map fun q => .int (q.1 : Int), rfl, ?_, ?_⟩
      · rintro k it acc hkt rfl
        obtain ⟨x, hx, rfl⟩ := mv_at hkt
        refine ⟨rfl, _, rfl, ?_⟩
        show _ = _
        rw [take_snoc hx, List.map_append]
        rfl
      rintro acc rfl
      rw [ones_len, List.length_map, List.take_length]
      refine ⟨(mvs b p.1).map fun q => (q.1 : Int), by rw [List.map_map]; rfl, by rw [List.length_map]; omega, fun ns' hperm hsort => ?_⟩
      have ens : ns' = (mvs b p.1).map fun q => (q.1 : Int) := eq_of_perm hperm hsort (by
        have := (fb.ok pst).rise
        rw [List.pairwise_map] at this ⊢
        exact this.imp fun h => by omega)
      subst ens
      have emv : (mvP b p).map (·.1) = (mvs b p.1).map (·.1) := by
        unfold mvP
        rw [List.map_map]
        have : ((mvs b p.1).zip p.2).map (fun q => q.1.1) = (((mvs b p.1).zip p.2).map Prod.fst).map (·.1) := by rw [List.map_map]; rfl
        show ((mvs b p.1).zip p.2).map (fun q => q.1.1) = _
        rw [this, List.map_fst_zip]
        rw [ok.len p pm]
        exact Nat.le_refl _
      have ed : ((mvs b p.1).map fun q => (q.1 : Int)) = ((mvP b p).map (·.1)).map fun n : Nat => (n : Int) := by rw [emv, List.map_map]; rfl
      rw [ed]
      refine ⟨fun k ρ => ∃ (y8 y9 y10 y11 y12 : Sl), ρ = e13 b w ps (.mu (.L ((addR (stR M 0 (lo + j)) q.2 ((mvP b p).take k)).map mtD))) (.rd (.L ((S.drop lo).map fun q => rwD q.2))) (.im (.int (0 + (i : Int)))) (.mu (.L (((addR (stR M 0 (lo + j)) q.2 ((mvP b p).take k)).drop S.length).map fun q => rwD q.2))) (.im (rwD q.2)) (.im (.int (q.1 : Int))) y8 y9 y10 y11 y12, ⟨_, _, _, _, _, rfl⟩, ?_, ?_⟩
      · rintro k it ρ hkt ⟨y8, y9, y10, y11, y12, rfl⟩
        obtain ⟨x0, hx0, rfl⟩ := natD_at hkt
        rw [List.getElem?_map] at hx0
        obtain ⟨x, hx, rfl⟩ := Option.map_eq_some_iff.mp hx0
        have xm := List.mem_of_getElem? hx
        have step := addR_take (r := q.2) hx (rfl : addR (stR M 0 (lo + j)) q.2 ((mvP b p).take k) = _)
        have ax := qa.snoc fb ok hp xm
        have okk : KeysOk M.length (addR (stR M 0 (lo + j)) q.2 ((mvP b p).take k)) := (okR (lo + j)).addR fun y hy => by
          have := r2 q.1 y (by rw [em]; exact List.mem_of_mem_take hy)
          exact this
        have pre : S.length ≤ (addR (stR M 0 (lo + j)) q.2 ((mvP b p).take k)).length := by
          have h1 := (stR_pre (b := M) (st := 0) lo j).length_le
          rw [hS] at h1
          exact Nat.le_trans h1 (addR_pre _ _ _).length_le
        generalize addR (stR M 0 (lo + j)) q.2 ((mvP b p).take k) = L at *
        have Ll := okk.len
        have ern : (.tuple (natsD q.2 ++ [.int (x.1 : Int)]) : D) = .tuple (natsD (q.2 ++ [x.1])) := by rw [natsD_snoc]
        have szr : (natsD q.2).length + 1 ≤ sizeLine := by rw [natsD_len]; exact Nat.le_of_lt (sz_le (m := 10000) (by omega) (by omega))
        refine ⟨szr, ?_⟩
        refine ⟨b, w, ps, 0, p0, natsD (q.2 ++ [x.1]), ⟨fb, ok⟩, rfl, rfl, rfl, congrArg Vl.p ern, hp0, by rw [e0]; exact ax.ok, .int (endL b ps 0 (natsD (q.2 ++ [x.1])) : Int), rfl, ?_⟩
        rw [ax.to]
        refine ⟨by rw [ones_len, List.length_map]; exact sz_le (m := 10000) (by omega) (by omega), fun n acc => acc = (L.take n).map fun q => .int (q.1 : Int), rfl, ?_, ?_⟩
        · rintro n it acc hnt rfl
          obtain ⟨y, hy, rfl⟩ := mt_at hnt
          refine ⟨rfl, _, rfl, ?_⟩
          show _ = _
          rw [take_snoc hy, List.map_append]
          rfl
        rintro acc rfl
        rw [ones_len, List.length_map, List.take_length]
        refine ⟨(L.map (·.1)).map fun n : Nat => (n : Int), .inr (by rw [List.map_map, List.map_map]; rfl), ?_⟩
        show if (!decide ((x.2 : Int) ∈ (L.map (·.1)).map fun n : Nat => (n : Int))) = true then _ else _
        by_cases hin : x.2 ∈ L.map (·.1)
        · rw [decide_eq_true (mem_nats.mpr hin)]
          rw [if_pos hin] at step
          exact ⟨_, _, _, _, _, by rw [step]; rfl⟩
        · rw [decide_eq_false fun z => hin (mem_nats.mp z)]
          rw [if_neg hin] at step
          have ea : (L ++ [(x.2, q.2 ++ [x.1])]).map mtD = L.map mtD ++ [.tuple [.tuple (natsD q.2 ++ [.int (x.1 : Int)]), .int (x.2 : Int)]] := by
            rw [List.map_append, ern]
            rfl
          have eb : (L.drop S.length ++ [(x.2, q.2 ++ [x.1])]).map (fun q => rwD q.2) = (L.drop S.length).map (fun q => rwD q.2) ++ [.tuple (natsD q.2 ++ [.int (x.1 : Int)])] := by
            rw [List.map_append, ern]
            rfl
          exact ⟨szr, by rw [List.length_map]; exact sz_le (m := 10000) (by omega) (by omega), szr, by rw [List.length_map, List.length_drop]; exact sz_le (m := 10000) (by omega) (by omega), _, _, _, _, _, by rw [step, List.drop_append_of_le_length pre, ea, eb]; rfl⟩
      · rintro ρ ⟨y8, y9, y10, y11, y12, rfl⟩
        have el : ((((((mvP b p).map (·.1)).map fun n : Nat => (n : Int)).map PyData.int).map Vl.p).map Iv.one).length = (mvP b p).length := by simp
        rw [el, List.take_length, ← stp]
        exact ⟨_, _, _, _, _, _, _, rfl⟩
    · rintro ρ ⟨y6, y7, y8, y9, y10, y11, y12, rfl⟩
      have el : ((((S.drop lo).map fun q => rwD q.2).map Vl.p).map Iv.one).length = S.length - lo := by simp
      rw [el]
      have e2 : lo + (S.length - lo) = S.length := by omega
      rw [e2]
      have g := (stR_pre (b := M) (st := 0) lo (S.length - lo)).length_le
      rw [hS, e2] at g
      refine ⟨S.length, _, _, _, _, _, _, _, _, _, rfl, g, ?_⟩
      by_cases z : S.length ≤ lo
      · have e3 : S.length = lo := by omega
        rw [e3, hS]
        exact .inr (by omega)
      · exact .inl (by omega)
  · rintro ρ ⟨lo, y4, s5, y6, y7, y8, y9, y10, y11, y12, rfl, hlo, hi⟩
    rw [rgI_len, Int.toNat_natCast, List.length_map] at hi
    have Sle : (stR M 0 lo).length ≤ ps.length := by rw [← ml]; exact (okR lo).len
    have e : ordR M 0 = stR M 0 lo := stR_end (by omega) (by omega)
    rw [e] at h
    exact h
/-! ### a message without pulses, as the law goes -/
def sv_law_nought : S2 := fun a c Po _ => ∃ (b : Book) (w : Nat) (ps : List Plc), Valid b w ps ∧ a = .p (bookD b) ∧ c = .p (layD w ps) ∧ Po (.p (noughtD b ps (ordB (mvL b ps))))
theorem sc_law_nought : FnScope ["book", "laying", "row", "place", "message", "to"] ["book", "laying"] (defScope s_law_nought) := ⟨rfl, rfl, rfl, by decide +kernel, rfl, by decide +kernel, by decide +kernel⟩
theorem okV_law_nought (T : Tx K mg) : FnOk P w K mg base CX0 4 T.law_nought.f T.law_nought.fd ["book", "laying"] (spC K (sv2 sv_law_nought)) := by
  refine T.law_nought.F.ok sc_law_nought (fun vs H Q E h => spC_len sv2_len h) (fun cdv A outer s H vs Q E hr h => ?_)
  refine ⟨_, (show PSs _ _ (liftS ⟨K, clT T, E⟩ _) from (vs_cons (vs_for PassesOwn.never rfl (vi_seq (pi_anyK K (ve_call (pe_call (okV_law_met T) (hr.mono (by decide)) (by rfl) T.law_met.g T.law_met.F.kp T.law_met.b .nil pass0 (va_cons (ve_var (pv 0)) (va_cons (ve_var (pv 1)) va_nil))) (fun _ => .nil)))) (vg_tup (pg_tupK (n := 2) K rfl (vgs_cons (vg_name (pg_name (i := 2) sc_law_nought.nd rfl (.inl rfl))) (vgs_cons (vg_name (pg_name (i := 3) sc_law_nought.nd rfl (.inl rfl))) vgs_nil))))
        (vs_one (vs_for PassesOwn.never rfl (vi_seq (pi_anyK K (ve_ix (ix_anyK K) c_ix (ve_var (pv 0)) (ve_ix (ix_anyK K) c_ix (ve_ix (ix_anyK K) c_ix (ve_ix (ix_anyK K) c_ix (ve_var (pv 1)) ve_int (fun _ _ => rfl)) (ve_var (pv 3)) (fun _ _ => rfl)) ve_int (fun _ _ => rfl)) (fun _ _ => rfl)))) (vg_tup (pg_tupK (n := 2) K rfl (vgs_cons (vg_name (pg_name (i := 4) sc_law_nought.nd rfl (.inl rfl))) (vgs_cons (vg_name (pg_name (i := 5) sc_law_nought.nd rfl (.inl rfl))) vgs_nil))))
          (vs_one (vs_if (vt_cmp op_eq c_eqS (ve_cb (pe_callB (cr_sumTK K) (by rfl) T.n_sum (by decide +kernel) (va_cons (ve_ix (ix_anyK K) c_ix (ve_call (pe_call (okV_law_lay_step T) (hr.mono (by decide)) (by rfl) T.law_lay_step.g T.law_lay_step.F.kp T.law_lay_step.b .nil pass0 (va_cons (ve_var (pv 0)) (va_cons (ve_var (pv 1)) (va_cons (ve_var (pv 3)) (va_cons (ve_var (pv 4)) va_nil))))) (fun _ => .nil)) ve_int (fun _ _ => rfl)) va_nil)) c_sumT) ve_int (nomark _))
            (vs_one (vs_ret (ve_tup (va_cons (ve_var (pv 3)) (va_cons (ve_var (pv 4)) va_nil)))))
            vs_nil)))))
      (vs_one (vs_ret ve_non)))), enterC2 h ?_⟩
  rintro _ _ Po ⟨b, w, ps, ⟨fb, ok⟩, rfl, rfl, h⟩
  obtain ⟨r1, r2, r3⟩ := ok.rows
  refine ⟨b, w, ps, ⟨fb, ok⟩, rfl, rfl, ?_⟩
  unfold noughtD at h
  have hF : ordB (mvL b ps) = (ordR (mvL b ps) 0).map (·.1) := (ordR_keys _).symm
  rw [hF] at h
  have Flt : ∀ q ∈ ordR (mvL b ps) 0, q.1 < ps.length := fun q hq => by have := (stR_ok r1 r2 _).lt q hq; rwa [mvL_len] at this
  generalize ordR (mvL b ps) 0 = L at *
  refine ⟨fun i ρ => ∃ y2 y3 y4 y5 : Sl, ρ = [.im (bookD b), .im (layD w ps), y2, y3, y4, y5] ∧ ((L.map (·.1)).flatMap (cand b ps)).head? = (((L.drop i).map (·.1)).flatMap (cand b ps)).head?, ⟨_, _, _, _, rfl, rfl⟩, ?_, ?_⟩
  · rintro i it ρ hit ⟨y2, y3, y4, y5, rfl, hh⟩
    obtain ⟨q, hq, rfl⟩ := mt_at hit
    obtain ⟨p, hp⟩ := get_lt (Flt q (List.mem_of_getElem? hq))
    have pm := List.mem_of_getElem? hp
    have pst := ok.st p pm
    rw [drop_at hq, List.map_cons, List.flatMap_cons, head_app] at hh
    have ec : cand b ps q.1 = ((mvs b p.1).zip p.2).filterMap fun x => if nzL x.2.2 = true then none else some (q.1, x.1.1) := by unfold cand; rw [plAt_of hp]
    refine ⟨rfl, .tuple (ps.map plcD), rfl, plcD p, atI_nat (by rw [List.getElem?_map, hp]; rfl), .int (p.1 : Int), rfl, stD (mvs b p.1), state_at pst, ?_⟩
    refine ⟨fun j ρ => ∃ y4 y5 : Sl, ρ = [.im (bookD b), .im (layD w ps), .im (rwD q.2), .im (.int (q.1 : Int)), y4, y5] ∧ (cand b ps q.1).head? = ((((mvs b p.1).zip p.2).drop j).filterMap fun x => if nzL x.2.2 = true then none else some (q.1, x.1.1)).head?, ⟨_, _, rfl, by rw [ec]; rfl⟩, ?_, ?_⟩
    · rintro j it ρ hjt ⟨y4, y5, rfl, hc⟩
      obtain ⟨x, hx, rfl⟩ := mv_at hjt
      have hlen := ok.len p pm
      have hj := (List.getElem?_eq_some_iff.mp hx).1
      obtain ⟨m, hm⟩ := get_lt (xs := p.2) (i := j) (by omega)
      have hz := zip_at hx hm
      rw [drop_at hz, List.filterMap_cons] at hc
      have hn := nextL_at fb ok pm hx hm
      refine ⟨rfl, b, w, ps, q.1, p, x.1, m, ⟨fb, ok⟩, rfl, rfl, rfl, rfl, hp, hn, lotD m.2, rfl, m.2, .inl rfl, ?_⟩
      show if decide (m.2.sum = 0) = true then _ else _
      rw [(sum0 (ok.lot p pm m (List.mem_of_getElem? hm)).2).2]
      cases hnz : nzL m.2 with
      | true =>
        simp only [hnz, if_true] at hc
        exact ⟨_, _, rfl, hc⟩
      | false =>
        simp only [hnz, Bool.false_eq_true, if_false] at hc
        have hc : (cand b ps q.1).head? = some (q.1, x.1) := hc
        have hne : cand b ps q.1 ≠ [] := fun z => by rw [z] at hc; cases hc
        rw [if_neg hne, hc] at hh
        rw [hh] at h
        exact h
    · rintro ρ ⟨y4, y5, rfl, hc⟩
      have hl : ((((mvs b p.1).map mvD).map Vl.p).map Iv.one).length = ((mvs b p.1).zip p.2).length := by simp [ok.len p pm]
      rw [hl, List.drop_length] at hc
      have hc : (cand b ps q.1).head? = none := hc
      have he : cand b ps q.1 = [] := List.head?_eq_none_iff.mp hc
      rw [if_pos he] at hh
      exact ⟨_, _, _, _, rfl, hh⟩
  · rintro ρ ⟨y2, y3, y4, y5, rfl, hh⟩
    rw [ones_len, List.length_map, List.drop_length] at hh
    rw [hh] at h
    exact h
end
end Nv
set_option Elab.async false
set_option linter.all false
set_option maxRecDepth 100000
/-! a laying's places as they are met, renumbered -/
namespace Nv
open PySem PySem.Spec PyProof.Rows L2
theorem idx_inj {F : List Nat} {a b : Nat} (ha : a ∈ F) (hb : b ∈ F) (e : F.idxOf a = F.idxOf b) : a = b := by
  have h1 : F[F.idxOf a]? = some a := by rw [List.getElem?_eq_getElem (List.idxOf_lt_length_of_mem ha), List.getElem_idxOf]
  have h2 : F[F.idxOf b]? = some b := by rw [List.getElem?_eq_getElem (List.idxOf_lt_length_of_mem hb), List.getElem_idxOf]
  rw [e, h2] at h1
  exact (Option.some.inj h1).symm
theorem idx_get {F : List Nat} {a : Nat} (ha : a ∈ F) : F[F.idxOf a]? = some a := by rw [List.getElem?_eq_getElem (List.idxOf_lt_length_of_mem ha), List.getElem_idxOf]
theorem idx_at {F : List Nat} (nd : F.Nodup) {i a : Nat} (h : F[i]? = some a) : F.idxOf a = i := by
  obtain ⟨hl, e⟩ := List.getElem?_eq_some_iff.mp h
  rw [← e]
  exact List.Nodup.idxOf_getElem nd i hl
theorem addR_ren {F : List Nat} : ∀ (ms : State) (L : List (Nat × Row)) (r : Row), (∀ q ∈ L, q.1 ∈ F) → (∀ p ∈ ms, p.2 ∈ F) → addR (L.map fun q => (F.idxOf q.1, q.2)) r (ms.map fun p => (p.1, F.idxOf p.2)) = (addR L r ms).map fun q => (F.idxOf q.1, q.2)
  | [], _, _, _, _ => rfl
  | p :: ms, L, r, hL, hm => by
    have hp := hm p (List.mem_cons_self ..)
    have e : F.idxOf p.2 ∈ (L.map fun q => ((F.idxOf q.1, q.2) : Nat × Row)).map (·.1) ↔ p.2 ∈ L.map (·.1) := by
      rw [List.map_map, List.mem_map, List.mem_map]
      constructor
      · rintro ⟨q, hq, e⟩
        exact ⟨q, hq, idx_inj (hL q hq) hp e⟩
      · rintro ⟨q, hq, e⟩
        exact ⟨q, hq, by show F.idxOf q.1 = _; rw [e]⟩
    have rest : ∀ x ∈ ms, x.2 ∈ F := fun x hx => hm x (List.mem_cons_of_mem _ hx)
    show addR (if F.idxOf p.2 ∈ (L.map fun q => ((F.idxOf q.1, q.2) : Nat × Row)).map (·.1) then (L.map fun q => ((F.idxOf q.1, q.2) : Nat × Row)) else (L.map fun q => ((F.idxOf q.1, q.2) : Nat × Row)) ++ [(F.idxOf p.2, r ++ [p.1])]) r (ms.map fun p => (p.1, F.idxOf p.2)) = (addR (if p.2 ∈ L.map (·.1) then L else L ++ [(p.2, r ++ [p.1])]) r ms).map fun q => (F.idxOf q.1, q.2)
    by_cases h : p.2 ∈ L.map (·.1)
    · rw [if_pos (e.mpr h), if_pos h]
      exact addR_ren ms L r hL rest
    · rw [if_neg (fun z => h (e.mp z)), if_neg h]
      have := addR_ren ms (L ++ [(p.2, r ++ [p.1])]) r (fun q hq => by
        rcases List.mem_append.mp hq with hq | hq
        · exact hL q hq
        · rw [List.mem_singleton.mp hq]; exact hp) rest
      rw [List.map_append] at this
      exact this
theorem stR_in {M : Book} {F : List Nat} (m : Met M F) : ∀ i, ∀ q ∈ stR M 0 i, q.1 ∈ F
  | 0, q, hq => by rw [List.mem_singleton.mp hq]; exact List.mem_of_getElem? m.zero
  | i + 1, q, hq => by
    have ih := stR_in m i
    cases h : (stR M 0 i)[i]? with
    | none => rw [stR_rest (List.getElem?_eq_none_iff.mp h) 1] at hq; exact ih q hq
    | some x =>
      rw [stR_step h] at hq
      exact addR_all (P := fun q => q.1 ∈ F) ih (fun y hy => m.cl x.1 (ih x (List.mem_of_getElem? h)) y hy) q hq
theorem stR_ren {M : Book} {F : List Nat} (m : Met M F) : ∀ i, stR (rename M F) 0 i = (stR M 0 i).map fun q => (F.idxOf q.1, q.2)
  | 0 => by
    show [((0 : Nat), ([] : Row))] = [(F.idxOf 0, [])]
    rw [idx_at m.nd m.zero]
  | i + 1 => by
    have ih := stR_ren m i
    cases h : (stR M 0 i)[i]? with
    | none =>
      have hl := List.getElem?_eq_none_iff.mp h
      rw [stR_rest hl 1, stR_rest (i := i) (by rw [ih, List.length_map]; exact hl) 1, ih]
    | some x =>
      have xF := stR_in m i x (List.mem_of_getElem? h)
      have h2 : (stR (rename M F) 0 i)[i]? = some (F.idxOf x.1, x.2) := by rw [ih, List.getElem?_map, h]; rfl
      rw [stR_step h, stR_step h2, rename_at (idx_get xF), ih]
      exact addR_ren _ _ _ (stR_in m i) (m.cl x.1 xF)
theorem ordR_ren {M : Book} {F : List Nat} (m : Met M F) (r1 : 0 < M.length) (r2 : ∀ s, ∀ p ∈ mvs M s, p.2 < M.length) : ordR (rename M F) 0 = (ordR M 0).map fun q => (F.idxOf q.1, q.2) := by
  have hl : F.length ≤ M.length := nodup_le m.nd m.lt
  have hn : (stR M 0 F.length).length ≤ F.length := by
    have h0 := (List.getElem?_eq_some_iff.mp m.zero).1
    have hk := (stR_ok (b := rename M F) (st := 0) (by rw [rename_len]; exact h0) (fun s p hp => by
      by_cases hs : s < F.length
      · obtain ⟨x, hx⟩ := (⟨_, List.getElem?_eq_getElem hs⟩ : ∃ x, F[s]? = some x)
        rw [rename_at hx] at hp
        obtain ⟨y, hy, rfl⟩ := List.mem_map.mp hp
        rw [rename_len]
        exact List.idxOf_lt_length_of_mem (m.cl x (List.mem_of_getElem? hx) y hy)
      · rw [mvs_out (by rw [rename_len]; omega)] at hp
        cases hp) F.length).len
    rwa [stR_ren m, List.length_map, rename_len] at hk
  rw [stR_end hn hl]
  show stR (rename M F) 0 (rename M F).length = _
  rw [rename_len]
  exact stR_ren m F.length
/-! ### the laying as it is seen -/
theorem seenP_len {ps : List Plc} {F : List Nat} : (seenP ps F).length = F.length := by simp [seenP]
theorem seenP_at {ps : List Plc} {F : List Nat} {j k : Nat} {p : Plc} (h : F[j]? = some k) (hp : ps[k]? = some p) : (seenP ps F)[j]? = some (p.1, p.2.map fun m => (F.idxOf m.1, m.2)) := by
  unfold seenP
  rw [List.getElem?_map, h]
  simp only [Option.map_some, plAt_of hp]
theorem mvL_seen {b : Book} {w : Nat} {ps : List Plc} {F : List Nat} (ok : LayOk b w ps) (lt : ∀ k ∈ F, k < ps.length) : mvL b (seenP ps F) = rename (mvL b ps) F := by
  unfold seenP rename
  show List.map _ (List.map _ F) = _
  rw [List.map_map]
  refine List.map_congr_left fun k hk => ?_
  obtain ⟨p, hp⟩ := (⟨_, List.getElem?_eq_getElem (lt k hk)⟩ : ∃ p, ps[k]? = some p)
  rw [mvL_at hp]
  show mvP b ((plAt ps k).1, (plAt ps k).2.map fun m => (F.idxOf m.1, m.2)) = _
  rw [plAt_of hp]
  unfold mvP
  show List.map _ ((mvs b p.1).zip (p.2.map _)) = _
  rw [List.zip_map_right, List.map_map, List.map_map]
  rfl
structure SeenOk (b : Book) (w : Nat) (ps : List Plc) (F : List Nat) : Prop where
  ok : LayOk b w ps
  m : Met (mvL b ps) F
theorem SeenOk.lt {b : Book} {w : Nat} {ps : List Plc} {F : List Nat} (s : SeenOk b w ps F) : ∀ k ∈ F, k < ps.length := fun k hk => by
  have := s.m.lt k hk
  rwa [mvL_len] at this
theorem SeenOk.to {b : Book} {w : Nat} {ps : List Plc} {F : List Nat} (s : SeenOk b w ps F) {k : Nat} {p : Plc} (hk : k ∈ F) (hp : ps[k]? = some p) {m : Stp} (hm : m ∈ p.2) : m.1 ∈ F := by
  obtain ⟨i, hi⟩ := List.mem_iff_getElem?.mp hm
  have hl := s.ok.len p (List.mem_of_getElem? hp)
  obtain ⟨x, hx⟩ := (⟨_, List.getElem?_eq_getElem (by have := (List.getElem?_eq_some_iff.mp hi).1; omega)⟩ : ∃ x, (mvs b p.1)[i]? = some x)
  have : (x.1, m.1) ∈ mvs (mvL b ps) k := by
    rw [mvL_at hp]
    unfold mvP
    exact List.mem_map.mpr ⟨(x, m), List.mem_of_getElem? (List.getElem?_zip_eq_some.mpr ⟨hx, hi⟩), rfl⟩
  exact s.m.cl k hk _ this
theorem SeenOk.lay {b : Book} {w : Nat} {ps : List Plc} {F : List Nat} (s : SeenOk b w ps F) : LayOk b w (seenP ps F) := by
  have at_ : ∀ q ∈ seenP ps F, ∃ k ∈ F, ∃ p, ps[k]? = some p ∧ q = (p.1, p.2.map fun m => (F.idxOf m.1, m.2)) := fun q hq => by
    unfold seenP at hq
    obtain ⟨k, hk, rfl⟩ := List.mem_map.mp hq
    obtain ⟨p, hp⟩ := (⟨_, List.getElem?_eq_getElem (s.lt k hk)⟩ : ∃ p, ps[k]? = some p)
    exact ⟨k, hk, p, hp, by rw [plAt_of hp]⟩
  have hl : F.length ≤ ps.length := by have := nodup_le s.m.nd s.m.lt; rwa [mvL_len] at this
  have h0 := (List.getElem?_eq_some_iff.mp s.m.zero).1
  refine ⟨s.ok.w6, by rw [seenP_len]; exact h0, by rw [seenP_len]; exact Nat.le_trans hl s.ok.n2, fun q hq => ?_, fun q hq => ?_, fun q hq => ?_, fun q hq i m x hm hx => ?_, fun q hq m hm => ?_⟩
  · obtain ⟨k, hk, p, hp, rfl⟩ := at_ q hq
    exact s.ok.st p (List.mem_of_getElem? hp)
  · obtain ⟨p, hp⟩ := (⟨_, List.getElem?_eq_getElem s.ok.n1⟩ : ∃ p, ps[0]? = some p)
    rw [seenP_at s.m.zero hp] at hq
    cases hq
    exact s.ok.s0 p hp
  · obtain ⟨k, hk, p, hp, rfl⟩ := at_ q hq
    show (p.2.map _).length = _
    rw [List.length_map]
    exact s.ok.len p (List.mem_of_getElem? hp)
  · obtain ⟨k, hk, p, hp, rfl⟩ := at_ q hq
    have hm : (p.2.map fun m => ((F.idxOf m.1, m.2) : Stp))[i]? = some m := hm
    rw [List.getElem?_map] at hm
    obtain ⟨y, hy, rfl⟩ := Option.map_eq_some_iff.mp hm
    obtain ⟨r, hr, er⟩ := s.ok.to p (List.mem_of_getElem? hp) i y x hy hx
    have yF := s.to hk hp (List.mem_of_getElem? hy)
    exact ⟨_, seenP_at (idx_get yF) hr, er⟩
  · obtain ⟨k, hk, p, hp, rfl⟩ := at_ q hq
    obtain ⟨y, hy, rfl⟩ := List.mem_map.mp hm
    exact s.ok.lot p (List.mem_of_getElem? hp) y hy
theorem nextL_ren {b : Book} {p : Plc} {f : Stp → Stp} (d : D) : nextL b (p.1, p.2.map f) d = (nextL b p d).map f := by
  cases d with
  | int i =>
    show Option.map _ (List.find? _ ((mvs b p.1).zip (p.2.map f))) = Option.map f (Option.map _ _)
    rw [List.zip_map_right, List.find?_map, Option.map_map, Option.map_map]
    rfl
  | _ => rfl
theorem SeenOk.walk {b : Book} {w : Nat} {ps : List Plc} {F : List Nat} (s : SeenOk b w ps F) : ∀ {ds : List D} {k : Nat}, k ∈ F → walkL b (seenP ps F) (F.idxOf k) ds = (walkL b ps k ds).map fun m => (F.idxOf m.1, m.2)
  | [], _, _ => rfl
  | d :: r, k, hk => by
    obtain ⟨p, hp⟩ := (⟨_, List.getElem?_eq_getElem (s.lt k hk)⟩ : ∃ p, ps[k]? = some p)
    show (match (seenP ps F)[F.idxOf k]? with | some p => _ | none => _) = List.map _ (match ps[k]? with | some p => _ | none => _)
    rw [hp, seenP_at (idx_get hk) hp]
    show (match nextL b (p.1, p.2.map fun m => ((F.idxOf m.1, m.2) : Stp)) d with | some m => m :: walkL b (seenP ps F) m.1 r | none => []) = List.map _ (match nextL b p d with | some m => m :: walkL b ps m.1 r | none => [])
    rw [nextL_ren]
    cases hn : nextL b p d with
    | none => rfl
    | some m =>
      have mm : m ∈ p.2 := ((s.ok.next (List.mem_of_getElem? hp) (d := d)).1 m hn).2
      show (F.idxOf m.1, m.2) :: walkL b (seenP ps F) (F.idxOf m.1) r = _
      rw [s.walk (s.to hk hp mm)]
      rfl
theorem SeenOk.lots {b : Book} {w : Nat} {ps : List Plc} {F : List Nat} (s : SeenOk b w ps F) (ds : List D) : (walkL b (seenP ps F) 0 ds).map (·.2) = (walkL b ps 0 ds).map (·.2) := by
  have h0 := idx_at s.m.nd s.m.zero
  have := s.walk (ds := ds) (List.mem_of_getElem? s.m.zero)
  rw [h0] at this
  rw [this, List.map_map]
  rfl
theorem idx_range {n k : Nat} (h : k < n) : (List.range n).idxOf k = k := idx_at List.nodup_range (List.getElem?_range h)
theorem seenP_id {b : Book} {w : Nat} {qs : List Plc} (ok : LayOk b w qs) : seenP qs (List.range qs.length) = qs := by
  refine List.ext_getElem? fun j => ?_
  by_cases hj : j < qs.length
  · obtain ⟨q, hq⟩ := (⟨_, List.getElem?_eq_getElem hj⟩ : ∃ q, qs[j]? = some q)
    have qm := List.mem_of_getElem? hq
    rw [seenP_at (List.getElem?_range hj) hq, hq]
    have : (q.2.map fun m => (((List.range qs.length).idxOf m.1, m.2) : Stp)) = q.2 := by
      refine (List.map_congr_left fun m hm => ?_).trans (List.map_id _)
      obtain ⟨i, hi⟩ := List.mem_iff_getElem?.mp hm
      have hl := ok.len q qm
      obtain ⟨x, hx⟩ := (⟨_, List.getElem?_eq_getElem (by have := (List.getElem?_eq_some_iff.mp hi).1; omega)⟩ : ∃ x, (mvs b q.1)[i]? = some x)
      obtain ⟨r, hr, _⟩ := ok.to q qm i m x hi hx
      rw [idx_range (List.getElem?_eq_some_iff.mp hr).1]
      rfl
    rw [this]
  · rw [List.getElem?_eq_none (by rw [seenP_len, List.length_range]; omega), List.getElem?_eq_none (by omega)]
theorem SeenOk.self {b : Book} {w : Nat} {ps : List Plc} (s : SeenOk b w ps (ordB (mvL b ps))) (m : MetO (mvL b ps) (ordB (mvL b ps))) : seenP (seenP ps (ordB (mvL b ps))) (ordB (mvL b (seenP ps (ordB (mvL b ps))))) = seenP ps (ordB (mvL b ps)) := by
  rw [mvL_seen s.ok s.lt, (ren_self m).1]
  have := seenP_id s.lay
  rw [seenP_len] at this
  exact this
/-! ### sums of lots are small -/
def LotIn (c : Int) (l : Lot) : Prop := ∀ n ∈ l, 0 ≤ n ∧ n ≤ c
theorem addL_in {c e : Int} {l m : Lot} (hl : LotIn c l) (hm : LotIn e m) : LotIn (c + e) (addL l m) := fun n hn => by
  unfold addL at hn
  obtain ⟨q, hq, rfl⟩ := List.mem_map.mp hn
  obtain ⟨h1, h2⟩ := List.of_mem_zip hq
  have := hl q.1 h1
  have := hm q.2 h2
  exact ⟨by omega, by omega⟩
theorem fold_in {e : Int} : ∀ {ls : List Lot} {c : Int} {l : Lot}, LotIn c l → (∀ m ∈ ls, LotIn e m) → LotIn (c + ls.length * e) (ls.foldl addL l)
  | [], c, l, h, _ => by simpa using h
  | m :: r, c, l, h, hm => by
    have := fold_in (ls := r) (addL_in h (hm m (List.mem_cons_self ..))) fun x hx => hm x (List.mem_cons_of_mem _ hx)
    rw [List.foldl_cons, List.length_cons]
    have ee : c + ((r.length + 1 : Nat) : Int) * e = c + e + (r.length : Int) * e := by
      rw [Int.natCast_add, Int.add_mul]
      omega
    rw [ee]
    exact this
theorem sumL_in {w : Nat} {e : Int} {ls : List Lot} (h : ∀ m ∈ ls, LotIn e m) : LotIn (ls.length * e) (sumL w ls) := by
  have := fold_in (c := 0) (l := List.replicate w 0) (fun n hn => by rw [(List.mem_replicate.mp hn).2]; exact ⟨Int.le_refl _, Int.le_refl _⟩) h
  rwa [Int.zero_add] at this
end Nv
set_option linter.all false
namespace Nv
open PySem PySem.Spec PyProof.Rows L2
/-! ### what may be shown, with numbers of up to forty figures -/
structure ShW (d : PyData) (k n : Nat) : Prop where
  a : d.showable = true
  b : d.hasDict = false
  c : d.depth ≤ k
  e : PyData.leavesShort 45 d = true
  f : PyData.bulk d ≤ n
structure ShWL (ds : List PyData) (k n : Nat) : Prop where
  a : PyData.showableAll ds = true
  b : PyData.hasDictAll ds = false
  c : PyData.depthAll ds ≤ k
  e : PyData.leavesShortAll 45 ds = true
  f : PyData.bulkAll ds ≤ n
theorem ShWL.nil {k n : Nat} : ShWL [] k n := ⟨rfl, rfl, Nat.zero_le _, rfl, Nat.zero_le _⟩
theorem ShWL.cons {d : PyData} {ds : List PyData} {k n m : Nat} (h : ShW d k n) (t : ShWL ds k m) : ShWL (d :: ds) k (n + 1 + m) where
  a := by simp only [PyData.showableAll, h.a, t.a, Bool.and_self]
  b := by simp only [PyData.hasDictAll, h.b, t.b, Bool.or_self]
  c := by
    have := h.c
    have := t.c
    simp only [PyData.depthAll]
    omega
  e := by simp only [PyData.leavesShortAll, h.e, t.e, Bool.and_self]
  f := by
    have := h.f
    have := t.f
    simp only [PyData.bulkAll]
    omega
theorem ShW.mono {d : PyData} {k n k' n' : Nat} (h : ShW d k n) (hk : k ≤ k') (hn : n ≤ n') : ShW d k' n' := ⟨h.a, h.b, Nat.le_trans h.c hk, h.e, Nat.le_trans h.f hn⟩
theorem ShWL.mono {d : List PyData} {k n k' n' : Nat} (h : ShWL d k n) (hk : k ≤ k') (hn : n ≤ n') : ShWL d k' n' := ⟨h.a, h.b, Nat.le_trans h.c hk, h.e, Nat.le_trans h.f hn⟩
theorem ShW.tup {ds : List PyData} {k n : Nat} (h : ShWL ds k n) : ShW (.tuple ds) (k + 1) n where
  a := by simp only [PyData.showable, h.a]
  b := by simp only [PyData.hasDict, h.b]
  c := by
    have := h.c
    simp only [PyData.depth]
    omega
  e := by simp only [PyData.leavesShort, h.e]
  f := by simp only [PyData.bulk]; exact h.f
theorem ShW.lst {ds : List PyData} {k n : Nat} (h : ShWL ds k n) : ShW (.list ds) (k + 1) n where
  a := by simp only [PyData.showable, h.a]
  b := by simp only [PyData.hasDict, h.b]
  c := by
    have := h.c
    simp only [PyData.depth]
    omega
  e := by simp only [PyData.leavesShort, h.e]
  f := by simp only [PyData.bulk]; exact h.f
theorem ShW.int {i : Int} (h : i.natAbs < 10 ^ 40) {k m : Nat} : ShW (.int i) k m where
  a := by
    show decide (i.natAbs.log2 < 1920) = true
    refine decide_eq_true ?_
    by_cases h0 : i.natAbs = 0
    · rw [h0]; decide
    · exact (Nat.log2_lt h0).mpr (Nat.lt_of_lt_of_le h (by decide +kernel))
  b := rfl
  c := Nat.zero_le _
  e := by
    show decide ((Str.ofString (toString i)).length ≤ 45) = true
    have := int_text_length_le10 (k := 40) (by decide) h
    rw [PySem.ofString_length]
    exact decide_eq_true (by omega)
  f := Nat.zero_le _
theorem ShW.nat {n : Nat} (h : n ≤ 1000000) {k m : Nat} : ShW (.int (n : Int)) k m := ShW.int (by rw [Int.natAbs_natCast]; exact Nat.lt_of_le_of_lt h (by decide))
theorem ShW.bl {b : Bool} {k m : Nat} : ShW (.bool b) k m := ⟨by cases b <;> rfl, rfl, Nat.zero_le _, by cases b <;> rfl, Nat.zero_le _⟩
theorem ShW.non {k m : Nat} : ShW .none k m := ⟨rfl, rfl, Nat.zero_le _, rfl, Nat.zero_le _⟩
theorem ShW.str {x : Str} (a : (PyData.str x).showable = true) (e : PyData.leavesShort 45 (.str x) = true) {k n : Nat} (f : x.cps.size ≤ n) : ShW (.str x) k n := ⟨a, rfl, Nat.zero_le _, e, f⟩
theorem ShWL.map {α : Type} {f : α → PyData} {k n : Nat} : ∀ {l : List α}, (∀ x ∈ l, ShW (f x) k n) → ShWL (l.map f) k (l.length * (n + 1))
  | [], _ => .nil
  | x :: r, h => by
    have h1 := ShWL.cons (h x (List.mem_cons_self ..)) (ShWL.map fun y hy => h y (List.mem_cons_of_mem _ hy))
    refine h1.mono (Nat.le_refl _) ?_
    rw [List.length_cons, Nat.add_mul]
    omega
theorem ShWL.mapN {α : Type} {f : α → PyData} {k n c : Nat} {l : List α} (h : ∀ x ∈ l, ShW (f x) k n) (hl : l.length ≤ c) : ShWL (l.map f) k (c * (n + 1)) := (ShWL.map h).mono (Nat.le_refl _) (Nat.mul_le_mul_right _ hl)
theorem ShW.ok {d : PyData} {k n : Nat} (h : ShW d k n) (hk : k ≤ 60 := by omega) (hn : n ≤ 300000 := by omega) : ShowOk d where
  a := h.a
  b := h.b
  c := Nat.le_trans h.c hk
  d := by
    have h1 := PyData.shown_le_bulk 45 (by decide) d h.e
    have h2 := h.f
    rw [sizeLine_eq]
    have : (45 + 2) * d.bulk ≤ 47 * 300000 := Nat.mul_le_mul_left _ (Nat.le_trans h2 hn)
    omega
end Nv
set_option maxHeartbeats 2000000
set_option pp.maxSteps 2500
set_option Elab.async false
set_option linter.all false
set_option maxRecDepth 100000
namespace Nv
open PySem PySem.Spec PyProof.Rows L2
section
variable {P : Program} {w : World} {K : PySem.W.Frag} {mg : Str → Option Value} {base : Heap}
/-! ### what is heard: a tuple -/
theorem takes_lenT {X : Cx} {W : WX} {n : Nat} (tk : Takes X W) (hn : X.N.length = n) : Takes X fun cls d σ H => σ.length = n → W cls d σ H := by
  rintro u s' ⟨a, B, sI, pins, σ, H, cls, d, e, I, nb, up, sky, na, os, ag, w⟩
  exact tk u s' ⟨a, B, sI, pins, σ, H, cls, d, e, I, nb, up, sky, na, os, ag, w (by rw [I.len, hn])⟩
open LamX in
/-- call(), heard: its value, or its error by name and what -/
def THeardT {K : PySem.W.Frag} {mg : Str → Option Value} (T : Tx K mg) : (XK → Hp → VK → Prop) → Hp → VK → Prop := fun tl H Q =>
  tl (fun cls d H' => ∃ (nm : Str) (C dx : Addr) (v : V), cls = .ref C ∧ ((C = T.x_BadRow.C ∧ nm = "BadRow")) ∧ d = some dx ∧ XdAt H' dx v ∧ ∀ t, H' t = none → Q (.ref t) (upd H' t (.tup [.str nm, v, .bl true]))) H fun v H' => [V.str "told", v].length ≤ sizeLine ∧ ∀ t, H' t = none → Q (.ref t) (upd H' t (.tup [.str "told", v]))
theorem sc_law_heard : FnScope ["call", "error", "found"] ["call"] (defScope s_law_heard) := ⟨rfl, rfl, rfl, by decide +kernel, rfl, by decide +kernel, by decide +kernel⟩
open LamX in
theorem heard_givesT (T : Tx K mg) {X : Cx} {k : Nat} (hr : Room (k + 1) X.A) (eK : X.K = K) (em : X.mg = mg) {cdg : Value} {q : Str} : GivesTo X ["call", "error", "found"] "_law_heard" (defScope s_law_heard) T.law_heard.f cdg (defBody s_law_heard) "call" q (THeardT T) := by
  subst eK em
  intro f c' s H Q tl act hc h
  refine ⟨_, pss_cons (ps_try_all2 (X := (cxOf C8.CX0 X.prog X.w X.K X.mg X.base ["call", "error", "found"] "_law_heard" (defScope s_law_heard) T.law_heard.f cdg X.A X.stack s H C8.E0).nox) (n := "error") (i := 1) (Wout := fun _ _ _ _ => False)
    (tb := fun W D σ H => ∃ Ech : XK, (∀ cls d σ' H', Ech cls d H' → σ'.length = 3 → W cls d σ' H') ∧ σ[0]? = some (some (.ref f)) ∧ H c' = some (CodeO c' q) ∧ tl Ech H fun v H' => [V.str "told", v].length ≤ sizeLine ∧ ∀ t, H' t = none → D.rt (.ref t) (upd H' t (.tup [.str "told", v])))
    rfl rfl sc_law_heard.nd rfl rfl L2.takes0 (fun W pn xe tk _ => ?_) (.one (c := .ref T.x_BadRow.C) ⟨rfl, by decide, .inl T.x_BadRow.g⟩ (fun a oe cls d pn hz hf => pss_one (ps_set (i := 2) sc_law_heard.nd rfl (.inl rfl) (pe_tup (pa_cons pe_str (pa_cons (pe_what (X := (cxOf C8.CX0 X.prog X.w X.K X.mg X.base ["call", "error", "found"] "_law_heard" (defScope s_law_heard) T.law_heard.f cdg X.A X.stack s H C8.E0).nox) T.x_BadRow hz hf (pv 1)) (pa_cons (pe_and (pe_callB (call_isET (X := (cxOf C8.CX0 X.prog X.w X.K X.mg X.base ["call", "error", "found"] "_law_heard" (defScope s_law_heard) T.law_heard.f cdg X.A X.stack s H C8.E0).nox) hz) (by rfl) T.n_isinstance (by decide +kernel) (pa_cons (pv 1) (pa_cons (pe_glob (v := .ref T.r_Refused.C) (by rfl) T.r_Refused.g rfl) pa_nil))) (pe_one (pe_callB (call_isET (X := (cxOf C8.CX0 X.prog X.w X.K X.mg X.base ["call", "error", "found"] "_law_heard" (defScope s_law_heard) T.law_heard.f cdg X.A X.stack s H C8.E0).nox) hz) (by rfl) T.n_isinstance (by decide +kernel) (pa_cons (pv 1) (pa_cons (pe_bltn (v := .ty "ValueError") (by rfl) T.n_ValueError (by decide +kernel) rfl) pa_nil))))) pa_nil)))))) (.bare (c := .ref T.r_Refused.C) ⟨rfl, by decide, .inl T.r_Refused.g⟩ (fun a oe cls d pn hz hf => pss_one (ps_set (i := 2) sc_law_heard.nd rfl (.inl rfl) (pe_tup (pa_cons pe_str (pa_cons pe_int (pa_cons pe_bl pa_nil)))))) .none))) (pss_one (ps_ret (pv 2))), ?_⟩
  · refine ⟨fun pins s' σ H' D I h' => ?_⟩
    obtain ⟨Ech, hW, h1, h2, h3⟩ := h'
    refine (pss_one (ps_ret (pe_tup (pa_cons pe_str (pa_cons (act _ pn xe Ech _ _ (takes_lenT (n := 3) tk rfl) hW) pa_nil))))).run pins s' σ H' D I ⟨h1, h2, h3⟩
  · refine ⟨_, fun cls d σ' H' hE hl => ?_, rfl, hc, h⟩
    obtain ⟨nm, C, dx, v, rfl, hC, rfl, hd, hq⟩ := hE
    obtain ⟨y0, y1, y2, rfl⟩ : ∃ y0 y1 y2, σ' = [y0, y1, y2] := by
      match σ', hl with
      | [y0, y1, y2], _ => exact ⟨y0, y1, y2, rfl⟩
    rcases hC with ⟨rfl, rfl⟩
    · refine ⟨true, exm_is _ _ T.s_BadRow_BadRow, fun _ a na => ?_, fun z => by cases z⟩
      exact ⟨_, rfl, rfl, rfl, dx, v, rfl, hd, ⟨_, rfl, .ref T.r_Refused.C, .ref T.r_Refused.C, rfl, fun u hu => hu, T.r_Refused.kit T.q_BadRow, _, rfl, iteT ⟨_, rfl, .ty "ValueError", .type "ValueError", rfl, fun u hu => hu, kit_ve T.v_BadRow, ⟨(by show 3 ≤ sizeLine; decide), fun t ht => ⟨_, rfl, hq t ht⟩⟩⟩⟩⟩
/-! ### a lambda handed to _law_heard -/
open LamX in
theorem pe_heardP {K : PySem.W.Frag} {mg : Str → Option Value} {X : Cx} {k : Nat} (T : Tx K mg) {c P : Addr} {params : Arguments} {body : Expr} {scope : Scope} {t : XK → TE} {p lpos pos : Pos} (eK : X.K = K) (em : X.mg = mg) (hg : Gl X "_law_heard") (TB : TabB X.base X.mg c P) {TT : List (Addr × Str)} (hT : (P, X.env.qual ++ "<lambda>") ∈ TT) (hN : ∀ p ∈ TT, p.1 = P → p.2 = X.env.qual ++ "<lambda>") (hcode : X.env.code = .ref c)
    (hr : Room (k + 2) X.A) (L : LamS X.env.scope scope) (hdef : defaultsOf params X.env = ([], [])) (hbind : ∀ (q : Str) (cl : List (Str × Addr)) (pm cv ctv : Value), bindArgs (PySem.W.kla_fn "<lambda>" q params body scope cl pm cv ctv) ⟨[], []⟩ = pure [])
    (hbody : ∀ (A : Around) (outer : List Env) (s : Shared) (H : Hp) (E : XK) (f c' : Addr), Room k (A.deeper (lamEnv X scope s.heap.objs.size f c')) → PE (lamCx X A outer s H E scope f c') body (t E)) :
    PE X (.Call (.Name "_law_heard" p) [.Lambda params body scope lpos] [] pos) (tLamP P TT (THeardT T) t) := by
  subst eK em
  obtain ⟨oc, od, kV, doc, pm, an, cdv, ct, osl, hfd, lk, cd⟩ := T.law_heard.F.ex
  rw [hfd] at lk
  have hb := T.law_heard.b
  rw [hfd] at hb
  exact pe_lamcallP hg T.law_heard.g T.law_heard.F.kp lk cd hb sc_law_heard rfl (.inl rfl) (heard_givesT T (k := k + 1) hr rfl rfl) TB hcode hT hN hr L hdef hbind hbody
theorem cl_heard (T : Tx K mg) {nm : Str} {C : Addr} (h : clT T nm C) (hn : nm ∈ (["BadRow"] : List Str)) : ((C = T.x_BadRow.C ∧ nm = "BadRow")) := by
  unfold clT at h
  rcases h with ⟨rfl, rfl⟩ | ⟨rfl, rfl⟩ | ⟨rfl, rfl⟩ | ⟨rfl, rfl⟩ <;> first | (exact absurd hn (by decide +kernel)) | simp
theorem ve_heard (T : Tx K mg) {Y : Cx} {X : Vx} {TT : List (Addr × Str)} {Pt : Addr} {q : Str} {U : WE} {e : Expr} (i : Nat) (eK : X.K = K) (hm : (Pt, q) ∈ TT) (h : PE Y e (tLamP Pt TT (THeardT T) (fun E => liftE ⟨K, clT T, E⟩ U))) : PE Y e (liftE X (eHeard TT i ["BadRow"] U)) := peV h fun σ H Q => by
  subst eK
  rintro ⟨B, A, ρ, R, Po, Ex, ⟨ht, h⟩, xl, go⟩
  obtain ⟨_, _, _, _, _, et⟩ := R.rl.get_pt ht
  refine ⟨(tabs_pool (H1 := H) R.pool et hm).1, fun H1 e1 T1 => ?_⟩
  obtain ⟨e1, k1⟩ := (tabs_pool R.pool et hm).2 e1 T1
  have R1 := R.step e1 k1
  refine ⟨⟨B.PP, A ++ B.S0, H1, []⟩, [], _, R1.ro, _, _, h, ?_, ?_⟩
  · rintro nm d C dx y H2 ⟨hn, hp⟩ hc hx hd e2 k2
    refine ⟨nm, C, dx, y, rfl, cl_heard T hc hn, rfl, ⟨nm, hx⟩, fun t ht => ?_⟩
    have e3 : Ext [] H2 (upd H2 t (.tup [.str nm, y, .bl true])) := .new ht
    refine go _ _ _ hp ((e1.trans e2).trans (Ext.new ht)) (k2.nw ht) ?_
    refine .tup (.of upd_same) (.cons (.str _) (.cons ?_ (.cons (.bl _) .nil)))
    refine Da.off (fun a z => .inl ?_) (hd.ext e3 .nil (by simp))
    have z : a ∈ (A ++ B.P) ++ B.S0 := z
    show a ∈ B.P ++ (A ++ B.S0)
    simp only [List.mem_append] at z ⊢
    rcases z with (z | z) | z <;> simp [z]
  · intro r v H2 hp e2 k2 hv
    refine ⟨(by show 2 ≤ sizeLine; decide), fun t ht => ?_⟩
    split at hp
    · rename_i d er
      have e3 : Ext [] H2 (upd H2 t (.tup [.str "told", v])) := .new ht
      refine go _ _ _ hp ((e1.trans e2).trans (Ext.new ht)) (k2.nw ht) ?_
      refine .tup (.of upd_same) (.cons (.str _) (.cons ?_ .nil))
      have hd : Da X.K (A ++ B.P ++ B.S0) H2 v d := by
        cases r with
        | p d' => cases er; exact Pu.da hv
        | o d' =>
          cases er
          exact Da.off (S' := A ++ B.P ++ B.S0) (fun a z => .inl (by
            show a ∈ B.P ++ (A ++ B.S0)
            simp only [List.mem_append] at z ⊢
            rcases z with (z | z) | z <;> simp [z])) hv
        | b m => cases er
        | k m => cases er
        | pl => cases er
        | f m =>
          obtain ⟨L, h1, h2⟩ := hv
          exact own_da h1 (fun a z w => R.there a w (pool_back k1 e1 (h2 a z))) er
      exact hd.ext e3 .nil (by simp)
    · exact hp.elim
theorem fd_of {name : Str} {st : Stmt} {ps : List Str} (D : DefAt K mg name st ps) {fd' : FuncData} {oc : Value} {od : Option Addr} {osl : Array (Option Value)} (lk : K.lookup D.f = some ⟨oc, od, .func fd', osl⟩) : D.fd = fd' := by
  obtain ⟨oc', od', kV, doc, pm, an, cdv, ct, osl', hfd, lk', cd'⟩ := D.F.ex
  rw [lk] at lk'
  have h := Option.some.inj lk'
  injection h with h1 h2 h3 h4
  injection h3 with h3
  exact h3.symm
end
end Nv
set_option Elab.async false
set_option linter.all false
set_option maxRecDepth 100000
/-! layings shown; a long row round a ring -/
namespace Nv
open PySem PySem.Spec PyProof.Rows L2
theorem int_fits {i : Int} (h0 : 0 ≤ i) (h : i ≤ 1000000000000000000000000000000000) : i.natAbs < 10 ^ 40 := by
  have : (10 : Nat) ^ 40 = 10000000000000000000000000000000000000000 := by decide +kernel
  rw [this]
  omega
theorem lot_sh {l : Lot} {c : Nat} (h : LotIn 1000000000000000000000000000000000 l) (hl : l.length ≤ c) {k : Nat} : ShW (lotD l) (k + 1) (c * 1) := ShW.tup (ShWL.mapN (n := 0) (fun n hn => ShW.int (int_fits (h n hn).1 (h n hn).2)) hl)
theorem plc_sh {b : Book} {w : Nat} {ps : List Plc} (fb : FormB b) (ok : LayOk b w ps) (sm : ∀ p ∈ ps, ∀ m ∈ p.2, LotIn 1000000000000000000000000000000000 m.2) (h2 : ps.length ≤ 1000) {p : Plc} (hp : p ∈ ps) (hto : ∀ m ∈ p.2, m.1 ≤ 1000000) : ShW (plcD p) 4 47 := by
  have hst := ok.st p hp
  have h5 := (fb.ok hst).few
  have e8 := fb.eight
  have hl := ok.len p hp
  have w6 := ok.w6
  have hs : ∀ m ∈ p.2, ShW (stpD m) 2 8 := fun m hm => ShW.tup ((ShWL.cons (ShW.nat (hto m hm) (m := 0)) (ShWL.cons (lot_sh (c := 6) (sm p hp m hm) (by rw [(ok.lot p hp m hm).1]; exact w6) (k := 0)) (ShWL.nil (n := 0)))).mono (Nat.le_refl _) (by omega))
  exact ShW.tup ((ShWL.cons (ShW.nat (by omega) (m := 0)) (ShWL.cons (ShW.tup (ShWL.mapN (c := 5) hs (by omega))) (ShWL.nil (n := 0)))).mono (by omega) (by omega))
theorem lay_to {b : Book} {w : Nat} {ps : List Plc} (ok : LayOk b w ps) {p : Plc} (hp : p ∈ ps) {m : Stp} (hm : m ∈ p.2) : m.1 < ps.length := by
  obtain ⟨i, hi⟩ := List.mem_iff_getElem?.mp hm
  have hl := ok.len p hp
  obtain ⟨x, hx⟩ := (⟨_, List.getElem?_eq_getElem (by have := (List.getElem?_eq_some_iff.mp hi).1; omega)⟩ : ∃ x, (mvs b p.1)[i]? = some x)
  obtain ⟨r, hr, _⟩ := ok.to p hp i m x hi hx
  exact (List.getElem?_eq_some_iff.mp hr).1
theorem lay_sh {b : Book} {w : Nat} {ps : List Plc} (fb : FormB b) (ok : LayOk b w ps) (sm : ∀ p ∈ ps, ∀ m ∈ p.2, LotIn 1000000000000000000000000000000000 m.2) (h2 : ps.length ≤ 1000) : ShW (layD w ps) 6 50000 := by
  have w6 := ok.w6
  refine ShW.tup ((ShWL.cons (ShW.nat (by omega) (m := 0)) (ShWL.cons (ShW.tup (ShWL.mapN (c := 1000) (fun p hp => plc_sh fb ok sm h2 hp fun m hm => by have := lay_to ok hp hm; omega) h2)) (ShWL.nil (n := 0)))).mono (by omega) (by omega))
theorem row_sh {r : Row} {c : Nat} (h : ∀ m ∈ r, m ≤ 1000000) (hl : r.length ≤ c) {k : Nat} : ShW (rwD r) (k + 1) (c * 1) := ShW.tup (ShWL.mapN (n := 0) (fun n hn => ShW.nat (h n hn)) hl)
/-! ### the messages of a row are the book's -/
theorem rowBad_msg {b : Book} (fb : FormB b) : ∀ {r : List Nat} {st i : Nat}, st < b.length → rowBad b st i (natsD r) = none → ∀ m ∈ r, m ≤ 99
  | [], _, _, _, _, m, hm => nomatch hm
  | x :: r, st, i, hs, h, m, hm => by
    have h : rowBad b st i (.int (x : Int) :: natsD r) = none := h
    unfold rowBad at h
    cases hn : nextD (mvs b st) (.int (x : Int)) with
    | none => rw [hn] at h; cases h
    | some t =>
      rw [hn] at h
      obtain ⟨x', e, hm'⟩ := next_mem hn
      have : x = x' := by
        have := PyData.int.inj e
        omega
      subst this
      rcases List.mem_cons.mp hm with rfl | hm
      · exact (fb.ok hs).msg _ hm'
      · exact rowBad_msg fb (fb.to hm') h m hm
theorem met_sh {b : Book} {w : Nat} {ps : List Plc} (fb : FormB b) (ok : LayOk b w ps) (h2 : ps.length ≤ 100) {L : List (Nat × Row)} (hL : ∀ q ∈ L, Along b ps q ∧ q.1 < ps.length ∧ q.2.length ≤ 100) (hl : L.length ≤ 100) : ShW (.tuple (L.map fun q => .tuple [rwD q.2, .int (q.1 : Int)])) 6 11000 := by
  refine (ShW.tup (ShWL.mapN (c := 100) (n := 102) (k := 3) (fun q hq => ?_) hl)).mono (by omega) (by omega)
  obtain ⟨h1, h2, h3⟩ := hL q hq
  have := rowBad_msg fb fb.one h1.ok
  exact ShW.tup ((ShWL.cons (row_sh (c := 100) (fun m hm => by have := this m hm; omega) h3 (k := 0)) (ShWL.cons (ShW.nat (by omega) (m := 0)) (ShWL.nil (n := 0)))).mono (by omega) (by omega))
theorem pair_sh {o : Option (Nat × Nat)} (h : ∀ q, o = some q → q.1 ≤ 1000000 ∧ q.2 ≤ 1000000) : ShW (pairO o) 6 100 := by
  cases o with
  | none => exact ShW.non
  | some q =>
    obtain ⟨h1, h2⟩ := h q rfl
    exact (ShW.tup (ShWL.cons (ShW.nat h1 (m := 0) (k := 0)) (ShWL.cons (ShW.nat h2 (m := 0)) (ShWL.nil (n := 0))))).mono (by omega) (by omega)
theorem cand_lt {b : Book} {w : Nat} {ps : List Plc} (fb : FormB b) (ok : LayOk b w ps) {F : List Nat} (lt : ∀ k ∈ F, k < ps.length) : ∀ q, (F.flatMap (cand b ps)).head? = some q → q.1 ≤ 1000000 ∧ q.2 ≤ 1000000 := fun q h => by
  have hm := List.mem_of_mem_head? (Option.mem_def.mpr h)
  obtain ⟨k, hk, hq⟩ := List.mem_flatMap.mp hm
  unfold cand at hq
  obtain ⟨x, hx, e⟩ := List.mem_filterMap.mp hq
  have hkl := lt k hk
  obtain ⟨p, hp⟩ := (⟨_, List.getElem?_eq_getElem hkl⟩ : ∃ p, ps[k]? = some p)
  rw [plAt_of hp] at hx
  have pm := List.mem_of_getElem? hp
  have n2 := ok.n2
  split at e
  · cases e
  · cases e
    have := (fb.ok (ok.st p pm)).msg x.1 (List.of_mem_zip hx).1
    exact ⟨by show k ≤ _; omega, by show x.1.1 ≤ _; omega⟩
/-! ### sums of lots along a row -/
theorem walk_in {b : Book} {w : Nat} {ps : List Plc} (ok : LayOk b w ps) {e : Int} (sm : ∀ p ∈ ps, ∀ m ∈ p.2, LotIn e m.2) : ∀ {ds : List D} {k : Nat}, ∀ m ∈ walkL b ps k ds, LotIn e m.2
  | [], _, m, hm => nomatch hm
  | d :: r, k, m, hm => by
    have hm : m ∈ (match ps[k]? with | some p => (match nextL b p d with | some m => m :: walkL b ps m.1 r | none => []) | none => []) := hm
    cases hp : ps[k]? with
    | none => rw [hp] at hm; cases hm
    | some p =>
      rw [hp] at hm
      simp only at hm
      cases hn : nextL b p d with
      | none => rw [hn] at hm; cases hm
      | some x =>
        rw [hn] at hm
        rcases List.mem_cons.mp hm with rfl | hm
        · exact sm p (List.mem_of_getElem? hp) _ ((ok.next (List.mem_of_getElem? hp) (d := d)).1 _ hn).2
        · exact walk_in ok sm m hm
/-! ### round a ring -/
theorem okB_by {b : Book} (h1 : 1 ≤ b.length) (h8 : b.length ≤ 8) (hs : ∀ s ∈ b, s.length ≤ 5 ∧ (s.map (·.1)).Pairwise (· < ·) ∧ (∀ p ∈ s, p.1 ≤ 99) ∧ ∀ p ∈ s, p.2 < b.length)
    (hr : ∀ s < b.length, s = 0 ∨ ∃ t < s, ∃ p ∈ mvs b t, p.2 = s) : OkB b where
  one := h1
  eight := h8
  st := fun s m => ⟨(hs s m).1, (hs s m).2.1, (hs s m).2.2.1, (hs s m).2.2.2⟩
  reach := fun s => by
    induction s using Nat.strongRecOn with
    | ind s ih =>
      intro h
      rcases hr s h with e | ⟨t, ht, p, hp, e⟩
      · rw [e]
        exact .zero
      · rw [← e]
        exact .step (ih t ht (by omega)) hp
def rgB : Book := [[(0, 1)], [(0, 0)]]
def rgL : List Plc := [(0, [(1, [1, 0])]), (1, [(2, [0, 1])]), (0, [(3, [2, 0])]), (1, [(0, [0, 3])])]
theorem rg_bad : ∀ (n st i : Nat), st < 2 → rowBad rgB st i (List.replicate n (.int 0)) = none
  | 0, _, _, _ => rfl
  | n + 1, st, i, h => by
    rw [List.replicate_succ]
    have : st = 0 ∨ st = 1 := by omega
    rcases this with rfl | rfl
    · exact rg_bad n 1 (i + 1) (by omega)
    · exact rg_bad n 0 (i + 1) (by omega)
theorem rg_fold (n : Nat) (a c : Int) : ((walkL rgB rgL 0 (List.replicate (n + 4) (.int 0))).map (·.2)).foldl addL [a, c] = ((walkL rgB rgL 0 (List.replicate n (.int 0))).map (·.2)).foldl addL [a + 1 + 0 + 2 + 0, c + 0 + 1 + 0 + 3] := rfl
theorem rg_folds (r : Nat) : ∀ (m : Nat) (a c : Int), ((walkL rgB rgL 0 (List.replicate (4 * m + r) (.int 0))).map (·.2)).foldl addL [a, c] = ((walkL rgB rgL 0 (List.replicate r (.int 0))).map (·.2)).foldl addL [a + 3 * m, c + 4 * m]
  | 0, a, c => by simp
  | m + 1, a, c => by
    have e : 4 * (m + 1) + r = (4 * m + r) + 4 := by omega
    rw [e, rg_fold, rg_folds r m]
    have e1 : a + 1 + 0 + 2 + 0 + 3 * (m : Int) = a + 3 * ((m + 1 : Nat) : Int) := by omega
    have e2 : c + 0 + 1 + 0 + 3 + 4 * (m : Int) = c + 4 * ((m + 1 : Nat) : Int) := by omega
    rw [e1, e2]
theorem rg_end (n : Nat) : endL rgB rgL 0 (List.replicate (n + 4) (.int 0)) = endL rgB rgL 0 (List.replicate n (.int 0)) := by
  have h : walkL rgB rgL 0 (List.replicate (n + 4) (.int 0)) = (1, [1, 0]) :: (2, [0, 1]) :: (3, [2, 0]) :: (0, [0, 3]) :: walkL rgB rgL 0 (List.replicate n (.int 0)) := rfl
  unfold endL
  simp only [h]
  rfl
theorem rg_ends (r : Nat) : ∀ m : Nat, endL rgB rgL 0 (List.replicate (4 * m + r) (.int 0)) = endL rgB rgL 0 (List.replicate r (.int 0))
  | 0 => by rw [Nat.mul_zero, Nat.zero_add]
  | m + 1 => by
    have e : 4 * (m + 1) + r = (4 * m + r) + 4 := by omega
    rw [e, rg_end, rg_ends r m]
theorem rg_sum (r : Nat) : sumL 2 ((walkL rgB rgL 0 (List.replicate (4 * 4999 + r) (.int 0))).map (·.2)) = ((walkL rgB rgL 0 (List.replicate r (.int 0))).map (·.2)).foldl addL [14997, 19996] := by
  have := rg_folds r 4999 0 0
  exact this
end Nv
set_option maxHeartbeats 2000000
set_option pp.maxSteps 2500
set_option Elab.async false
set_option linter.all false
set_option maxRecDepth 100000
namespace Nv
open PySem PySem.Spec PyProof.Rows L2
section
variable {P : Program} {w : World} {K : PySem.W.Frag} {mg : Str → Option Value} {base : Heap}
set_option pp.maxSteps 300
theorem okV_lot_of (T : Tx K mg) : FnOk P w K mg base CX0 8 T.lot_of.f T.lot_of.fd ["book", "laying", "row"] (spC K (sv3 sv_lot_of)) := FnOk.calmV (okX_lot_of T)
theorem okV_place_at (T : Tx K mg) : FnOk P w K mg base CX0 8 T.place_at.f T.place_at.fd ["book", "laying", "row"] (spC K (sv3 sv_place_at)) := FnOk.calmV (okX_place_at T)
/-! ### what is told of the places -/
theorem sub_one {α : Type} (x : α) (n : Nat) : (List.replicate n [x]).flatten = List.replicate n x := by simp
def LayIn (ps : List Plc) : Prop := ∀ p ∈ ps, ∀ m ∈ p.2, LotIn 1000000000000000000000000000000000 m.2
def sv_law_seen_right : S3 := fun a c d Po _ => ∃ (b : Book) (w : Nat) (ps : List Plc), OkB b ∧ LayOk b w ps ∧ LaySm ps ∧ ps.length ≤ 100 ∧ a = .pl ∧ c = .p (bookD b) ∧ d = .p (layD w ps) ∧ Po (.p (.bool true))
theorem walkB_lay {b : Book} {r : List Nat} {t : Nat} (h : walkB b 0 r = some t) : rowBad b 0 0 (natsD r) = none := walkB_ok h
theorem sum_sh {b : Book} {w : Nat} {ps : List Plc} (ok : LayOk b w ps) (hb : ps[0]?.isSome) (sm : LaySm ps) {ds : List D} {p : Plc} (hp : ps[0]? = some p) (hbad : rowBad b p.1 0 ds = none) (hl : ds.length ≤ 15) : ShW (lotD (sumL w ((walkL b ps 0 ds).map (·.2)))) 1 6 := by
  obtain ⟨wl, wk⟩ := ok.walk hp hbad
  have h1 : ∀ m ∈ (walkL b ps 0 ds).map (·.2), LotIn big31 m := fun l hl => by
    obtain ⟨x, hx, rfl⟩ := List.mem_map.mp hl
    exact walk_in ok (e := big31) (fun p hp m hm n hn => ⟨(ok.lot p hp m hm).2 n hn, sm p hp m hm n hn⟩) x hx
  have h2 := sumL_in (w := w) h1
  have h3 : (sumL w ((walkL b ps 0 ds).map (·.2))).length = w := by
    unfold sumL
    refine sumL_len (fun l hl => ?_) (List.length_replicate ..)
    obtain ⟨x, hx, rfl⟩ := List.mem_map.mp hl
    exact (wk x hx).1.1
  have w6 := ok.w6
  have e31 : big31 = 10000000000000000000000000000000 := rfl
  refine (lot_sh (c := 6) (k := 0) (fun n hn => ⟨(h2 n hn).1, Int.le_trans (h2 n hn).2 ?_⟩) (by omega)).mono (by omega) (by omega)
  rw [List.length_map, wl, e31]
  omega
theorem sc_law_seen_right : FnScope ["pool", "book", "laying", "due", "told", "order", "places", "place", "state", "steps", "row", "to", "lot", "at"] ["pool", "book", "laying"] (defScope s_law_seen_right) := ⟨rfl, rfl, rfl, by decide +kernel, rfl, by decide +kernel, by decide +kernel⟩
theorem okV_law_seen_right (T : Tx K mg) : FnG P w K mg base CX0 9 T.law_seen_right.f T.law_seen_right.fd ["pool", "book", "laying"] (spC K (sv3 sv_law_seen_right)) := by
  refine FunG.ok T.law_seen_right.F sc_law_seen_right (fun vs H Q E h => spC_len sv3_len h) (fun cdv A outer s H vs Q E hG hr h => ?_)
  refine ⟨_, (show PSs _ _ (liftS ⟨K, clT T, E⟩ _) from (vs_cons (vs_parT (is := [3, 4]) rfl (ps_asg (pe_tup (va_cons (ve_call (pe_call (okV_law_met T) (hr.mono (by decide)) (by rfl) T.law_met.g T.law_met.F.kp T.law_met.b .nil pass0 (va_cons (ve_var (pv 1)) (va_cons (ve_var (pv 2)) va_nil))) (fun _ => .nil)) (va_cons (ve_call (pe_call (okV_seen T) (hr.mono (by decide)) (by rfl) T.seen.g T.seen.F.kp T.seen.b .nil pass0 (va_cons (ve_var (pv 1)) (va_cons (ve_var (pv 2)) va_nil))) (fun _ => .nil)) va_nil))) (pg_tupK (n := 2) K rfl (pgs_cons (pg_name (i := 3) sc_law_seen_right.nd rfl (.inr rfl)) (pgs_cons (pg_name (i := 4) sc_law_seen_right.nd rfl (.inl rfl)) pgs_nil)))) (by decide))
      (vs_cons (vs_if (PW.pt (vw_or (vt_cmp op_ne c_neS (ve_cb (pe_callB (call_reprAK K hr.units hG) (by rfl) T.n_repr (by decide +kernel) (va_cons (ve_call (pe_call (okV_met T) (hr.mono (by decide)) (by rfl) T.met.g T.met.F.kp T.met.b .nil pass0 (va_cons (ve_var (pv 1)) (va_cons (ve_var (pv 2)) va_nil))) (fun _ => .nil)) va_nil)) c_repr) (ve_cb (pe_callB (call_reprAK K hr.units hG) (by rfl) T.n_repr (by decide +kernel) (va_cons (ve_cb (pe_callTy (call_tupZK K) (by rfl) T.n_tuple (by decide +kernel) (va_cons (ve_var (pv 3)) va_nil)) c_tupOf) va_nil)) c_repr) (nomark _)) (pw_or1 (vt_cmp op_ne c_neS (ve_cb (pe_callB (call_reprAK K hr.units hG) (by rfl) T.n_repr (by decide +kernel) (va_cons (ve_call (pe_call (okV_nought T) (hr.mono (by decide)) (by rfl) T.nought.g T.nought.F.kp T.nought.b .nil pass0 (va_cons (ve_var (pv 1)) (va_cons (ve_var (pv 2)) va_nil))) (fun _ => .nil)) va_nil)) c_repr) (ve_cb (pe_callB (call_reprAK K hr.units hG) (by rfl) T.n_repr (by decide +kernel) (va_cons (ve_call (pe_call (okV_law_nought T) (hr.mono (by decide)) (by rfl) T.law_nought.g T.law_nought.F.kp T.law_nought.b .nil pass0 (va_cons (ve_var (pv 1)) (va_cons (ve_var (pv 2)) va_nil))) (fun _ => .nil)) va_nil)) c_repr) (nomark _)))))
        (vs_one (vs_ret ve_bl))
        vs_nil)
      (vs_cons (vs_parT (is := [5, 6]) rfl (ps_asg (pe_tup (va_cons (ve_fz 3 (ve_lc (pe_lc (own := [("row", 10), ("place", 7)]) rfl sc_law_seen_right.nd (vi_seq (pi_anyK K (ve_var (pv 3)))) (blkOk_by (own := [("row", 10), ("place", 7)]) (N := ["pool", "book", "laying", "due", "told", "order", "places", "place", "state", "steps", "row", "to", "lot", "at"]) (sc := defScope s_law_seen_right) (by decide +kernel)) (fun _ _ _ _ _ => (vg_tup (pg_tupK (n := 2) K rfl (vgs_cons (vg_name (pg_name (i := 10) sc_law_seen_right.nd rfl (.inl rfl))) (vgs_cons (vg_name (pg_name (i := 7) sc_law_seen_right.nd rfl (.inl rfl))) vgs_nil))))) (fun _ _ _ _ _ => pts_nil) (fun _ _ _ _ _ => (ve_var (pv 7)))) lift_yes (by decide))) (va_cons (ve_lst va_nil) va_nil))) (pg_tupK (n := 2) K rfl (pgs_cons (pg_name (i := 5) sc_law_seen_right.nd rfl (.inr rfl)) (pgs_cons (pg_name (i := 6) sc_law_seen_right.nd rfl (.inl rfl)) pgs_nil)))) (by decide))
      (vs_cons (vs_fz 5 (vs_for PassesOwn.never rfl (vi_seq (pi_anyK K (ve_var (pv 5)))) (vg_name (pg_name (i := 7) sc_law_seen_right.nd rfl (.inl rfl)))
        (vs_cons (vs_asg (ps_asg (ve_ix (ix_anyK K) c_ix (ve_ix (ix_anyK K) c_ix (ve_var (pv 2)) ve_int (fun _ _ => rfl)) (ve_var (pv 7)) (fun _ _ => rfl)) (vg_tup (pg_tupK (n := 2) K rfl (vgs_cons (vg_name (pg_name (i := 8) sc_law_seen_right.nd rfl (.inl rfl))) (vgs_cons (vg_name (pg_name (i := 9) sc_law_seen_right.nd rfl (.inl rfl))) vgs_nil))))))
        (vs_one (vs_append (ps_expr (pe_bmK K PySem.F.plainAttrs_list PySem.F.slot_list_append PySem.F.type_list_append mt_append (pv 6) (pa_cons (ve_tup (va_cons (ve_var (pv 8)) (va_cons (ve_cb (pe_callTy (call_tupZK K) (by rfl) T.n_tuple (by decide +kernel) (va_cons (ve_lc (pe_lc (own := [("to", 11), ("lot", 12)]) rfl sc_law_seen_right.nd (vi_seq (pi_anyK K (ve_var (pv 9)))) (blkOk_by (own := [("to", 11), ("lot", 12)]) (N := ["pool", "book", "laying", "due", "told", "order", "places", "place", "state", "steps", "row", "to", "lot", "at"]) (sc := defScope s_law_seen_right) (by decide +kernel)) (fun _ _ _ _ _ => (vg_tup (pg_tupK (n := 2) K rfl (vgs_cons (vg_name (pg_name (i := 11) sc_law_seen_right.nd rfl (.inl rfl))) (vgs_cons (vg_name (pg_name (i := 12) sc_law_seen_right.nd rfl (.inl rfl))) vgs_nil))))) (fun _ _ _ _ _ => pts_nil) (fun _ _ _ _ _ => (ve_tup (va_cons (ve_index (pe_bmK K PySem.F.plainAttrs_list PySem.F.slot_list_index PySem.F.type_list_index (mt_indexK K) (ve_var (pv 5)) (pa_cons (ve_var (pv 11)) pa_nil))) (va_cons (ve_var (pv 12)) va_nil))))) lift_yes (by decide)) va_nil)) c_tupOf) va_nil))) pa_nil))))))))
      (vs_cons (vs_if (PW.pt (vw_or (vt_cmp op_ne c_neS (ve_cb (pe_callB (call_reprAK K hr.units hG) (by rfl) T.n_repr (by decide +kernel) (va_cons (ve_var (pv 4)) va_nil)) c_repr) (ve_cb (pe_callB (call_reprAK K hr.units hG) (by rfl) T.n_repr (by decide +kernel) (va_cons (ve_tup (va_cons (ve_ix (ix_anyK K) c_ix (ve_var (pv 2)) ve_int (fun _ _ => rfl)) (va_cons (ve_cb (pe_callTy (call_tupZK K) (by rfl) T.n_tuple (by decide +kernel) (va_cons (ve_var (pv 6)) va_nil)) c_tupOf) va_nil))) va_nil)) c_repr) (nomark _)) (pw_or1 (vt_cmp op_notBl c_notB (ve_call (pe_call (okV_is_laying T) (hr.mono (by decide)) (by rfl) T.is_laying.g T.is_laying.F.kp T.is_laying.b .nil pass0 (va_cons (ve_var (pv 1)) (va_cons (ve_var (pv 4)) va_nil))) (fun _ => .nil)) ve_bl (nomark _)))))
        (vs_one (vs_ret ve_bl))
        vs_nil)
      (vs_cons (vs_set (i := 10) sc_law_seen_right.nd rfl (.inl rfl) (ve_call (pe_call (okV_law_book_row T) (hr.mono (by decide)) (by rfl) T.law_book_row.g T.law_book_row.F.kp T.law_book_row.b .nil pass0 (va_cons (ve_var (pv 0)) (va_cons (ve_var (pv 1)) (va_cons ve_int va_nil)))) (fun _ => .nil)))
      (vs_cons (vs_if (PW.pt (vw_or (vt_cmp op_ne c_neS (ve_cb (pe_callB (call_reprAK K hr.units hG) (by rfl) T.n_repr (by decide +kernel) (va_cons (ve_call (pe_call (okV_lot_of T) (hr.mono (by decide)) (by rfl) T.lot_of.g T.lot_of.F.kp T.lot_of.b .nil pass0 (va_cons (ve_var (pv 1)) (va_cons (ve_var (pv 4)) (va_cons (ve_var (pv 10)) va_nil)))) (fun _ => .nil)) va_nil)) c_repr) (ve_cb (pe_callB (call_reprAK K hr.units hG) (by rfl) T.n_repr (by decide +kernel) (va_cons (ve_call (pe_call (okV_lot_of T) (hr.mono (by decide)) (by rfl) T.lot_of.g T.lot_of.F.kp T.lot_of.b .nil pass0 (va_cons (ve_var (pv 1)) (va_cons (ve_var (pv 2)) (va_cons (ve_var (pv 10)) va_nil)))) (fun _ => .nil)) va_nil)) c_repr) (nomark _)) (pw_or1 (vt_cmp op_ne c_neS (ve_cb (pe_callB (call_reprAK K hr.units hG) (by rfl) T.n_repr (by decide +kernel) (va_cons (ve_call (pe_call (okV_seen T) (hr.mono (by decide)) (by rfl) T.seen.g T.seen.F.kp T.seen.b .nil pass0 (va_cons (ve_var (pv 1)) (va_cons (ve_var (pv 4)) va_nil))) (fun _ => .nil)) va_nil)) c_repr) (ve_cb (pe_callB (call_reprAK K hr.units hG) (by rfl) T.n_repr (by decide +kernel) (va_cons (ve_var (pv 4)) va_nil)) c_repr) (nomark _)))))
        (vs_one (vs_ret ve_bl))
        vs_nil)
      (vs_one (vs_ret (ve_cmp op_eq c_eqS (ve_cb (pe_callB (call_reprAK K hr.units hG) (by rfl) T.n_repr (by decide +kernel) (va_cons (ve_call (pe_call (okV_met T) (hr.mono (by decide)) (by rfl) T.met.g T.met.F.kp T.met.b .nil pass0 (va_cons (ve_var (pv 1)) (va_cons (ve_var (pv 4)) va_nil))) (fun _ => .nil)) va_nil)) c_repr) (ve_cb (pe_callB (call_reprAK K hr.units hG) (by rfl) T.n_repr (by decide +kernel) (va_cons (ve_cb (pe_callTy (call_tupZK K) (by rfl) T.n_tuple (by decide +kernel) (va_cons (ve_lc (pe_lc (own := [("at", 13)]) rfl sc_law_seen_right.nd (vi_range1 (pi_range1 (by rfl) T.n_range (va_cons (ve_cb (pe_callB (call_len_seqK K) (by rfl) T.n_len PySem.boot_len (va_cons (ve_var (pv 3)) va_nil)) c_len) va_nil))) (blkOk_by (own := [("at", 13)]) (N := ["pool", "book", "laying", "due", "told", "order", "places", "place", "state", "steps", "row", "to", "lot", "at"]) (sc := defScope s_law_seen_right) (by decide +kernel)) (fun _ _ _ _ _ => (vg_name (pg_name (i := 13) sc_law_seen_right.nd rfl (.inl rfl)))) (fun _ _ _ _ _ => pts_nil) (fun _ _ _ _ _ => (ve_tup (va_cons (ve_ix (ix_anyK K) c_ix (ve_ix (ix_anyK K) c_ix (ve_var (pv 3)) (ve_var (pv 13)) (fun _ _ => rfl)) ve_int (fun _ _ => rfl)) (va_cons (ve_var (pv 13)) va_nil))))) lift_yes (by decide)) va_nil)) c_tupOf) va_nil)) c_repr) (nomark _)))))))))))), enterC3 h ?_⟩
  rintro _ _ _ Po ⟨b, w, ps, okb, ok, sm, hps, rfl, rfl, rfl, h⟩
  have fb := okb.toFormB
  have w6 := ok.w6
  obtain ⟨r1, r2, r3⟩ := ok.rows
  have mO := metOR (b := mvL b ps) r1 r2
  have hk : ∀ q ∈ ordR (mvL b ps) 0, Along b ps q ∧ q.1 < ps.length ∧ q.2.length ≤ 100 := fun q hq => by
    obtain ⟨h1, h2⟩ := stR_along fb ok _ q hq
    have h3 := stR_rows _ q hq
    rw [mvL_len] at h3
    exact ⟨h1, h2, by omega⟩
  have hkl : (ordR (mvL b ps) 0).length ≤ 100 := by have := ordR_len r1 r2; rw [mvL_len] at this; omega
  have keys := ordR_keys (mvL b ps)
  have so : SeenOk b w ps (ordB (mvL b ps)) := ⟨ok, mO.toMet⟩
  have lt := so.lt
  have sin : LayIn ps := fun p hp m hm n hn => by
    have h1 := (ok.lot p hp m hm).2 n hn
    have h2 := sm p hp m hm n hn
    exact ⟨h1, Int.le_trans h2 (by decide)⟩
  have shm : ShowOk (metD (mvL b ps) 0) := (met_sh fb ok hps hk hkl).ok
  have shn : ShowOk (noughtD b ps (ordB (mvL b ps))) := (pair_sh (cand_lt fb ok lt)).ok
  have oks := so.lay
  have F0 := (List.getElem?_eq_some_iff.mp mO.zero).1
  have slen : (seenP ps (ordB (mvL b ps))).length ≤ 100 := by
    rw [seenP_len, ordB_len]
    exact hkl
  have sinS : LayIn (seenP ps (ordB (mvL b ps))) := fun p hp m hm => by
    unfold seenP at hp
    obtain ⟨k, hk, rfl⟩ := List.mem_map.mp hp
    obtain ⟨p, hp⟩ := get_lt (lt k hk)
    rw [plAt_of hp] at hm
    obtain ⟨y, hy, rfl⟩ := List.mem_map.mp hm
    exact sin p (List.mem_of_getElem? hp) y hy
  have shs : ShowOk (layD w (seenP ps (ordB (mvL b ps)))) := (lay_sh fb oks sinS (by omega)).ok
  have hkS : ∀ q ∈ ordR (mvL b (seenP ps (ordB (mvL b ps)))) 0, Along b (seenP ps (ordB (mvL b ps))) q ∧ q.1 < (seenP ps (ordB (mvL b ps))).length ∧ q.2.length ≤ 100 := fun q hq => by
    obtain ⟨h1, h2⟩ := stR_along fb oks _ q hq
    have h3 := stR_rows _ q hq
    rw [mvL_len] at h3
    exact ⟨h1, h2, by omega⟩
  have hklS : (ordR (mvL b (seenP ps (ordB (mvL b ps)))) 0).length ≤ 100 := by
    obtain ⟨s1, s2, _⟩ := oks.rows
    have := ordR_len s1 s2
    rw [mvL_len] at this
    omega
  have shM : ShowOk (metD (mvL b (seenP ps (ordB (mvL b ps)))) 0) := (met_sh fb oks slen hkS hklS).ok
  clear hkS hklS
  have self := so.self mO
  have ren := ordR_ren mO.toMet r1 r2
  have mvs_ := mvL_seen (F := ordB (mvL b ps)) ok lt
  have lots := so.lots
  refine ⟨b, w, ps, ⟨fb, ok⟩, rfl, rfl, ?_⟩
  refine ⟨b, w, ps, okb, ok, rfl, rfl, ?_⟩
  -- met, nought
  refine ⟨b, w, ps, okb, ok, rfl, rfl, shm, shm, ?_⟩
  show if (!decide (((metD (mvL b ps) 0).shown) = ((metD (mvL b ps) 0).shown))) = true then _ else _
  rw [decide_eq_true rfl]
  refine ⟨b, w, ps, okb, ok, rfl, rfl, shn, b, w, ps, ⟨fb, ok⟩, rfl, rfl, shn, ?_⟩
  show if (!decide (((noughtD b ps (ordB (mvL b ps))).shown) = ((noughtD b ps (ordB (mvL b ps))).shown))) = true then _ else _
  rw [decide_eq_true rfl]
  generalize hL : ordR (mvL b ps) 0 = L at *
  generalize hF : ordB (mvL b ps) = F at *
  have FL : F = L.map (·.1) := keys.symm
  have Fl : F.length = L.length := by rw [FL, List.length_map]
  -- order
  refine ⟨by rw [ones_len, List.length_map]; exact sz_le (m := 1000) (by omega) (by omega), fun i acc => acc = natsD ((L.take i).map (·.1)), rfl, ?_, ?_⟩
  · rintro i it acc hit rfl
    obtain ⟨q, hq, rfl⟩ := mt_at hit
    refine ⟨rfl, _, rfl, ?_⟩
    show _ = _
    rw [take_snoc hq, List.map_append]
    exact natsD_snoc
  rintro acc rfl
  rw [ones_len, List.length_map, List.take_length, ← FL]
  refine ⟨fun i ρ => ∃ y7 y8 y9 y10 y11 y12 y13 : Sl, ρ = [.pl, .im (bookD b), .im (layD w ps), .mu (.L (L.map mtD)), .im (layD w (seenP ps F)), .rd (.L (natsD F)), .mu (.L (((seenP ps F).take i).map plcD)), y7, y8, y9, y10, y11, y12, y13], ⟨_, _, _, _, _, _, _, rfl⟩, ?_, ?_⟩
  · rintro i it ρ hit ⟨y7, y8, y9, y10, y11, y12, y13, rfl⟩
    obtain ⟨k, hk, rfl⟩ := nat_at hit
    have kF := List.mem_of_getElem? hk
    obtain ⟨p, hp⟩ := get_lt (lt k kF)
    have pm := List.mem_of_getElem? hp
    have h5 := (fb.ok (ok.st p pm)).few
    have hlen := ok.len p pm
    have hi := (List.getElem?_eq_some_iff.mp hk).1
    refine ⟨.tuple (ps.map plcD), rfl, plcD p, atI_nat (by rw [List.getElem?_map, hp]; rfl), rfl, ?_⟩
    refine ⟨by rw [ones_len, List.length_map]; exact sz_le (m := 1000) (by omega) (by omega), fun j acc => acc = ((p.2.map fun m => ((F.idxOf m.1, m.2) : Stp)).take j).map stpD, rfl, ?_, ?_⟩
    · rintro j it acc hjt rfl
      obtain ⟨m, hm, rfl⟩ := stp_at hjt
      have mF := so.to kF hp (List.mem_of_getElem? hm)
      refine ⟨rfl, F.map (fun n : Nat => (n : Int)), by rw [natsD_in]; rfl, mem_nats.mpr mF, _, rfl, ?_⟩
      show _ ++ [PyData.tuple [.int (((F.map fun n : Nat => (n : Int)).idxOf (m.1 : Int) : Nat) : Int), lotD m.2]] = _
      have : (p.2.map fun m => ((F.idxOf m.1, m.2) : Stp))[j]? = some (F.idxOf m.1, m.2) := by rw [List.getElem?_map, hm]; rfl
      rw [take_snoc this, List.map_append, idx_nats]
      rfl
    · rintro acc rfl
      have el : (((p.2.map stpD).map Vl.p).map Iv.one).length = (p.2.map fun m => ((F.idxOf m.1, m.2) : Stp)).length := by simp
      rw [el, List.take_length]
      have := seenP_at hk hp
      exact ⟨by rw [List.length_map, List.length_take]; exact sz_le (m := 1000) (by omega) (by omega), _, _, _, _, _, _, _, by rw [take_snoc this, List.map_append]; rfl⟩
  rintro ρ ⟨y7, y8, y9, y10, y11, y12, y13, rfl⟩
  rw [ones_len, natsD_len, ← seenP_len (ps := ps) (F := F), List.take_length]
  -- what is told
  refine ⟨shs, .int (w : Int), rfl, shs, ?_⟩
  show if (!decide (((layD w (seenP ps F)).shown) = ((layD w (seenP ps F)).shown))) = true then _ else _
  rw [decide_eq_true rfl]
  refine ⟨b, w, seenP ps F, okb, oks, rfl, rfl, ?_⟩
  -- a row
  refine ⟨b, 15, rfl, rfl, rfl, fb, by omega, fun row t hrow ht hlen => ?_⟩
  have hbad := walkB_lay hrow
  obtain ⟨p0, hp0, e0⟩ := ok.p0
  have shl := (sum_sh ok (by rw [hp0]; rfl) sm hp0 (by rw [e0]; exact hbad) (ds := natsD row) (by rw [natsD_len]; exact hlen)).ok
  have noX : ∀ e, rowErr b (rwD row) = some e → False := fun e he => by
    have := row_short (b := b) (ds := natsD row) (by rw [natsD_len]; omega)
    rw [rwD_nats, this, hbad] at he
    cases he
  refine ⟨b, w, seenP ps F, rwD row, okb, oks, rfl, rfl, rfl, noX, fun ds e _ _ => ?_⟩
  rw [rwD_nats] at e
  cases e
  rw [lots]
  refine ⟨shl, b, w, ps, rwD row, okb, ok, rfl, rfl, rfl, noX, fun ds e _ _ => ?_⟩
  rw [rwD_nats] at e
  cases e
  refine ⟨shl, ?_⟩
  show if (!decide (((lotD (sumL w ((walkL b ps 0 (natsD row)).map (·.2)))).shown) = ((lotD (sumL w ((walkL b ps 0 (natsD row)).map (·.2)))).shown))) = true then _ else _
  rw [decide_eq_true rfl]
  refine ⟨b, w, seenP ps F, okb, oks, rfl, rfl, ?_⟩
  rw [self]
  refine ⟨shs, shs, ?_⟩
  show if (!decide (((layD w (seenP ps F)).shown) = ((layD w (seenP ps F)).shown))) = true then _ else _
  rw [decide_eq_true rfl]
  -- met again
  refine ⟨b, w, seenP ps F, okb, oks, rfl, rfl, shM, ?_⟩
  have em : metD (mvL b (seenP ps F)) 0 = .tuple ((L.map fun q => ((F.idxOf q.1, q.2) : Nat × Row)).map mtD) := by
    unfold metD
    rw [mvs_, ren]
    rfl
  rw [em] at shM ⊢
  generalize hR : (L.map fun q => ((F.idxOf q.1, q.2) : Nat × Row)) = R at *
  refine ⟨⟨by omega, by rw [List.length_map]; omega⟩, by rw [rgI_len, Int.toNat_natCast, List.length_map]; exact sz_le (m := 1000) (by omega) (by omega), fun i acc => acc = (R.take i).map mtD, rfl, ?_, ?_⟩
  · rintro i it acc hit rfl
    obtain ⟨hlt, rfl⟩ := rgI_at hit
    rw [Int.toNat_natCast, List.length_map] at hlt
    rw [Int.zero_add]
    obtain ⟨q, hq⟩ := get_lt hlt
    have hFq : F[i]? = some q.1 := by rw [FL, List.getElem?_map, hq]; rfl
    have hRq : R[i]? = some (i, q.2) := by rw [← hR, List.getElem?_map, hq]; show some (F.idxOf q.1, q.2) = _; rw [idx_at mO.nd hFq]
    refine ⟨mtD q, atI_nat (by rw [List.getElem?_map, hq]; rfl), rwD q.2, rfl, _, rfl, ?_⟩
    show _ = _
    rw [take_snoc hRq, List.map_append]
    rfl
  rintro acc rfl
  have eR : (rgI 0 ((L.map mtD).length : Int).toNat).length = R.length := by rw [rgI_len, Int.toNat_natCast, List.length_map, ← hR, List.length_map]
  rw [eR, List.take_length]
  refine ⟨shM, ?_⟩
  show Po (.p (.bool (decide (_ = _))))
  rw [decide_eq_true rfl]
  exact h
end
end Nv
set_option maxHeartbeats 2000000
set_option pp.maxSteps 2500
set_option Elab.async false
set_option linter.all false
set_option maxRecDepth 100000
namespace Nv
open PySem PySem.Spec PyProof.Rows L2
section
variable {P : Program} {w : World} {K : PySem.W.Frag} {mg : Str → Option Value} {base : Heap}
/-! ### a long row round a ring -/
def sv_law_long_right : S1 := fun a Po _ => a = .pl ∧ Po (.p (.bool true))
theorem rg_okB : OkB rgB := okB_by (by decide) (by decide) (by decide +kernel) (by decide +kernel)
theorem sh2 (x y : Int) : SeqAt.shaped (.tuple [.int x, .int y]) = true := rfl
theorem eqv2 (x y : Int) : PyData.eqv (.tuple [.int x, .int y]) (.tuple [.int x, .int y]) = true := by simp [PyData.eqv, PyData.eqvAll]
theorem rg_key {r : Int} (h0 : 0 ≤ r) (h1 : r < 4) : ∃ (n : Nat) (x y : Int) (e : Nat), n ≤ 20000 ∧ (20000 : Int) - r = (n : Int) ∧ atI [PyData.tuple [.int 0, .int 0], .tuple [.int 0, .int 3], .tuple [.int 2, .int 3], .tuple [.int 2, .int 4]] r = some (.tuple [.int x, .int y]) ∧
    sumL 2 ((walkL rgB rgL 0 (List.replicate n (.int 0))).map (·.2)) = [15000 - x, 20000 - y] ∧ endL rgB rgL 0 (List.replicate n (.int 0)) = e ∧ atI [PyData.int 0, .int 3, .int 2, .int 1] r = some (.int (e : Int)) := by
  have : r = 0 ∨ r = 1 ∨ r = 2 ∨ r = 3 := by omega
  rcases this with rfl | rfl | rfl | rfl
  · exact ⟨4 * 4999 + 4, 0, 0, 0, by omega, by omega, rfl, rg_sum 4, rg_ends 4 4999, rfl⟩
  · exact ⟨4 * 4999 + 3, 0, 3, 3, by omega, by omega, rfl, rg_sum 3, rg_ends 3 4999, rfl⟩
  · exact ⟨4 * 4999 + 2, 2, 3, 2, by omega, by omega, rfl, rg_sum 2, rg_ends 2 4999, rfl⟩
  · exact ⟨4 * 4999 + 1, 2, 4, 1, by omega, by omega, rfl, rg_sum 1, rg_ends 1 4999, rfl⟩
theorem row_longN {b : Book} {ds : List D} (h : ¬ ds.length ≤ 20000) : rowErr b (.tuple ds) = some (-1) := if_neg h
theorem rg_noX {n : Nat} (hn : n ≤ 20000) : ∀ e, rowErr rgB (.tuple (List.replicate n (.int 0))) = some e → False := fun e he => by
  have := row_short (b := rgB) (ds := List.replicate n (.int 0)) (by rw [List.length_replicate]; exact hn)
  rw [this, rg_bad n 0 0 (by omega)] at he
  cases he
theorem rg_lay : LayOk rgB 2 rgL := by
  have lots : ∀ p ∈ rgL, ∀ m ∈ p.2, m.2.length = 2 ∧ ∀ n ∈ m.2, 0 ≤ n := by decide
  refine ⟨by decide, by decide, by decide, by decide, by decide, by decide, ?_, lots⟩
  intro p hp i m q hm hq
  simp only [rgL, List.mem_cons, List.not_mem_nil, or_false] at hp
  have i0 : i = 0 := by
    rcases hp with rfl | rfl | rfl | rfl <;> (have := (List.getElem?_eq_some_iff.mp hm).1; simp at this; exact this)
  subst i0
  rcases hp with rfl | rfl | rfl | rfl <;> (cases hm; cases hq; exact ⟨_, rfl, rfl⟩)
theorem sc_law_long_right : FnScope ["pool", "ring", "more", "laying", "lots", "due", "row"] ["pool"] (defScope s_law_long_right) := ⟨rfl, rfl, rfl, by decide +kernel, rfl, by decide +kernel, by decide +kernel⟩
def q_law_long_right : Str := (Str.ofString "_law_long_right" ++ Str.ofString ".<locals>.") ++ Str.ofString "<lambda>"
theorem okV_law_long_right (T : Tx K mg) {cl Pt : Addr} {kV doc pm ct oc : Value} {an od : Option Addr} {osl : Array (Option Value)}
    (lk : K.lookup T.law_long_right.f = some ⟨oc, od, .func (PySem.W.fnOf "_law_long_right" "_law_long_right" (defArgs s_law_long_right) (defBody s_law_long_right) (defScope s_law_long_right) .none kV doc pm an (.ref cl) ct), osl⟩) (cd : PySem.W.codeIn K (.ref cl) "_law_long_right" = true) (TB : LamX.TabB base mg cl Pt) {TT : List (Addr × Str)} (hT : (Pt, q_law_long_right) ∈ TT) (hN : ∀ p ∈ TT, p.1 = Pt → p.2 = q_law_long_right) :
    FnG P w K mg base CX0 11 T.law_long_right.f T.law_long_right.fd ["pool"] (spLm K TT (sv1 sv_law_long_right)) := by
  rw [fd_of T.law_long_right lk]
  refine fnG_of lk cd sc_law_long_right (fun vs H Q E h => spLm_len sv1_len h) fun A outer s H vs Q E hG hr h => ?_
  refine ⟨_, PSs.nox (show PSs _ _ (liftS ⟨K, clT T, E⟩ _) from (vs_cons (vs_parT (is := [1, 2]) rfl (ps_asg (pe_tup (va_cons (ve_tup (va_cons (ve_tup (va_cons (ve_tup (va_cons ve_int (va_cons ve_int va_nil))) va_nil)) (va_cons (ve_tup (va_cons (ve_tup (va_cons ve_int (va_cons ve_int va_nil))) va_nil)) va_nil))) (va_cons (ve_call (pe_call (okV_law_draw T) (hr.mono (by decide)) (by rfl) T.law_draw.g T.law_draw.F.kp T.law_draw.b .nil pass0 (va_cons (ve_var (pv 0)) (va_cons ve_int va_nil))) (fun _ => .nil)) va_nil))) (pg_tupK (n := 2) K rfl (pgs_cons (pg_name (i := 1) sc_law_long_right.nd rfl (.inr rfl)) (pgs_cons (pg_name (i := 2) sc_law_long_right.nd rfl (.inl rfl)) pgs_nil)))) (by decide))
      (vs_cons (vs_set (i := 3) sc_law_long_right.nd rfl (.inr rfl) (ve_tup (va_cons ve_int (va_cons (ve_tup (va_cons (ve_tup (va_cons ve_int (va_cons (ve_tup (va_cons (ve_tup (va_cons ve_int (va_cons (ve_tup (va_cons ve_int (va_cons ve_int va_nil))) va_nil))) va_nil)) va_nil))) (va_cons (ve_tup (va_cons ve_int (va_cons (ve_tup (va_cons (ve_tup (va_cons ve_int (va_cons (ve_tup (va_cons ve_int (va_cons ve_int va_nil))) va_nil))) va_nil)) va_nil))) (va_cons (ve_tup (va_cons ve_int (va_cons (ve_tup (va_cons (ve_tup (va_cons ve_int (va_cons (ve_tup (va_cons ve_int (va_cons ve_int va_nil))) va_nil))) va_nil)) va_nil))) (va_cons (ve_tup (va_cons ve_int (va_cons (ve_tup (va_cons (ve_tup (va_cons ve_int (va_cons (ve_tup (va_cons ve_int (va_cons ve_int va_nil))) va_nil))) va_nil)) va_nil))) va_nil))))) va_nil))))
      (vs_cons (vs_set (i := 4) sc_law_long_right.nd rfl (.inl rfl) (ve_lst (va_cons (ve_tup (va_cons ve_int (va_cons ve_int va_nil))) (va_cons (ve_tup (va_cons ve_int (va_cons ve_int va_nil))) (va_cons (ve_tup (va_cons ve_int (va_cons ve_int va_nil))) (va_cons (ve_tup (va_cons ve_int (va_cons ve_int va_nil))) va_nil))))))
      (vs_cons (vs_set (i := 5) sc_law_long_right.nd rfl (.inl rfl) (ve_tup (va_cons (ve_op op_sub c_sub ve_int (ve_ix (ix_anyK K) c_ix (ve_ix (ix_anyK K) c_ix (ve_var (pv 4)) (ve_var (pv 2)) (fun _ _ => rfl)) ve_int (fun _ _ => rfl))) (va_cons (ve_op op_sub c_sub ve_int (ve_ix (ix_anyK K) c_ix (ve_ix (ix_anyK K) c_ix (ve_var (pv 4)) (ve_var (pv 2)) (fun _ _ => rfl)) ve_int (fun _ _ => rfl))) va_nil))))
      (vs_cons (vs_set (i := 6) sc_law_long_right.nd rfl (.inl rfl) (ve_op (op_repAZK K) c_repT (ve_tup (va_cons ve_int va_nil)) (ve_op op_sub c_sub ve_int (ve_var (pv 2)))))
      (vs_cons (vs_if (PW.pt (vw_or (vt_cmp (op_neDK K hr.units) c_neD (ve_call (pe_call (okV_lot_of T) (hr.mono (by decide)) (by rfl) T.lot_of.g T.lot_of.F.kp T.lot_of.b .nil pass0 (va_cons (ve_var (pv 1)) (va_cons (ve_var (pv 3)) (va_cons (ve_var (pv 6)) va_nil)))) (fun _ => .nil)) (ve_var (pv 5)) (nomark _)) (pw_or1 (vt_cmp op_ne c_neS (ve_call (pe_call (okV_place_at T) (hr.mono (by decide)) (by rfl) T.place_at.g T.place_at.F.kp T.place_at.b .nil pass0 (va_cons (ve_var (pv 1)) (va_cons (ve_var (pv 3)) (va_cons (ve_var (pv 6)) va_nil)))) (fun _ => .nil)) (ve_ix (ix_anyK K) c_ix (ve_lst (va_cons ve_int (va_cons ve_int (va_cons ve_int (va_cons ve_int va_nil))))) (ve_var (pv 2)) (fun _ _ => rfl)) (nomark _)))))
        (vs_one (vs_ret ve_bl))
        vs_nil)
      (vs_one (vs_ret (ve_cmp (op_eqDK K hr.units) c_eqD (ve_heard T 0 rfl hT (pe_heardP (k := 8) T rfl rfl (by rfl) TB hT hN rfl (hr.mono (by decide)) (LamX.lamS_by (sc := defScope s_law_long_right) (by decide +kernel)) rfl (fun _ _ _ _ _ => rfl) (fun _ _ _ _ _ _ _ hr => (ve_callX (pe_call (okX_lot_of T) (hr.mono (by decide)) (by rfl) T.lot_of.g T.lot_of.F.kp T.lot_of.b .nil (passes_call (takes_of rfl rfl rfl rfl) (fun _ _ _ _ h => h)) (va_cons (ve_var (pv 1)) (va_cons (ve_var (pv 3)) (va_cons (ve_op (op_repAZK K) c_repT (ve_tup (va_cons ve_int va_nil)) ve_int) va_nil)))) (fun _ => .nil))))) (ve_tup (va_cons ve_str (va_cons (ve_un un_neg c_neg ve_int) (va_cons ve_bl va_nil)))) (nomark _))))))))))), enterL1 h ?_⟩
  rintro _ Po ⟨rfl, h⟩
  refine ⟨4, rfl, rfl, by decide, by decide, fun r r0 r1 => ?_⟩
  obtain ⟨n, x, y, e, hn, hr, hat, hsum, hend, hat2⟩ := rg_key r0 r1
  refine ⟨.tuple [.int x, .int y], hat, .int x, rfl, .tuple [.int x, .int y], hat, .int y, rfl, ?_⟩
  refine ⟨⟨by omega, by omega, by rw [hr, Int.toNat_natCast]; simp; omega⟩, ?_⟩
  rw [hr, Int.toNat_natCast, sub_one]
  refine ⟨rgB, 2, rgL, .tuple (List.replicate n (.int 0)), rg_okB, rg_lay, rfl, rfl, rfl, rg_noX hn, fun ds eds _ _ => ?_⟩
  cases eds
  rw [hsum]
  refine ⟨sh2 _ _, sh2 _ _, ?_⟩
  show if (!PyData.eqv (.tuple [.int (15000 - x), .int (20000 - y)]) (.tuple [.int (15000 - x), .int (20000 - y)])) = true then _ else _
  rw [eqv2]
  refine ⟨rgB, 2, rgL, .tuple (List.replicate n (.int 0)), rg_okB, rg_lay, rfl, rfl, rfl, rg_noX hn, fun ds eds _ _ => ?_⟩
  cases eds
  refine ⟨.int (e : Int), hat2, ?_⟩
  show if (!decide (((endL rgB rgL 0 (List.replicate n (.int 0)) : Nat) : Int) = (e : Int))) = true then _ else _
  rw [hend, decide_eq_true rfl]
  refine ⟨rfl, ⟨by decide, by decide, by decide⟩, ?_⟩
  have e1 : ((List.replicate (20001 : Int).toNat [(.int 0 : D)]).flatten) = List.replicate 20001 (.int 0) := sub_one _ _
  refine ⟨rgB, 2, rgL, .tuple (List.replicate 20001 (.int 0)), rg_okB, rg_lay, rfl, rfl, congrArg (fun z => some (PyData.tuple z)) e1, fun z hz => ?_, fun ds eds _ hl => ?_⟩
  · have ez : z = -1 := by
      have : rowErr rgB (.tuple (List.replicate 20001 (.int 0))) = some (-1) := by
        exact row_longN (by rw [List.length_replicate]; omega)
      rw [this] at hz
      cases hz
      rfl
    subst ez
    refine ⟨by decide +kernel, ?_⟩
    refine ⟨by decide +kernel, by decide +kernel, ?_⟩
    show Po (.p (.bool (PyData.eqv (.tuple [.str "BadRow", .int (-1), .bool true]) (.tuple [.str "BadRow", .int (-1), .bool true]))))
    rw [show PyData.eqv (.tuple [.str "BadRow", .int (-1), .bool true]) (.tuple [.str "BadRow", .int (-1), .bool true]) = true by decide +kernel]
    exact h
  · cases eds
    rw [List.length_replicate] at hl
    omega
end
end Nv
set_option Elab.async false
set_option linter.all false
set_option maxRecDepth 100000
namespace Nv
open PySem PySem.Spec PyProof.Rows L2
open LamX in
/-- the end of a law some of whose defs make lambdas: Ts, their code objects, each with its table -/
theorem endGTs {l : PySem.W.OpenLaw} {n k : Nat} {q : Program} {loose : List Str} {XP : (Str → Option Value) → Heap → Prop} {YP : World → Heap → Prop} {d : DefRec} {K : Params → PySem.W.Frag} {sp : PySem.W.Frag → List (Addr × Addr) → Sp} {x : Str} {Ts : List (Addr × Addr)}
    (hn : l.most = some n) (hn2 : n ≤ sizeLine) (hdf : d.params.defaults = []) (hr : Room k callerA) (hY : ∀ (w : World) (h : Heap), YP w h → (K w.params).In h) (hP : ∀ (w : World) (h : Heap), YP w h → ∀ p ∈ Ts, h.get? p.2 = some { cls := .none, data := .fields #[] })
    (F : ∀ (w : World) (mg : Str → Option Value) (fa : Addr) (h : Heap), (K w.params).In h → h.Ns mainGlobals mg → mg d.name = some (.ref fa) →
      (∀ p ∈ Ts, (K w.params).lookup p.2 = none ∧ PySem.W.codeHdIn (K w.params) p.1 p.2 = true) ∧
      ∃ fd : FuncData, (∀ (s : Shared) (u : Value), BindsTo s fd ⟨[u], []⟩ [(x, u)]) ∧ ∀ base : Heap, (K w.params).In base → base.Ns mainGlobals mg → (∀ p ∈ Ts, TabB base mg p.1 p.2) → FnG l.prog w (K w.params) mg base CX0 k fa fd [x] (sp (K w.params) Ts))
    (hsp : ∀ (K : PySem.W.Frag) (H : Hp) (a : Addr) (ns : List Int), ns.length ≤ n → SqL K H a (ns.map V.int) → (∀ p ∈ Ts, H p.2 = some (.tbl #[])) → sp K Ts [.ref a] H (fun v _ => v = .bl true) fun _ _ _ => False) :
    PySem.W.WalkO q loose XP YP l.row.toRowW d [] (fun f vs => PySem.call f vs) := by
  refine Att.attach_call hn hdf fun w s₀ s1 mg mb fa o pm cd doc a vs ns G Y ho hd hcd hmg hobj hints hlen hg => ?_
  have KX := hY w _ Y
  have hP := hP w _ Y
  obtain ⟨nC, fd, hb, hF⟩ := F w mg fa _ KX G.T.g hmg
  have small : ns.length ≤ sizeLine := Nat.le_trans hlen hn2
  obtain ⟨Z, only, seen, hok, dom⟩ := script_gone (P := l.prog) (w := w) KX hobj hints small
  have aP : ∀ p ∈ Ts, a ≠ p.2 := fun p hp z => by
    rw [z, hP p hp] at hobj
    cases hobj
  let isT : Addr → Prop := fun b => ∃ p ∈ Ts, b = p.2
  have isT0 : ∀ b, isT b → s1.heap.get? b = some { cls := .none, data := .fields #[] } := fun b ⟨p, hp, e⟩ => by rw [e]; exact hP p hp
  haveI : DecidablePred isT := fun b => Classical.propDecidable _
  have aT : ¬ isT a := fun ⟨p, hp, e⟩ => aP p hp e
  obtain ⟨H, eH⟩ : ∃ H : Hp, H = fun b => if isT b then some (.tbl #[]) else Z b := ⟨_, rfl⟩
  have HP : ∀ b, isT b → H b = some (.tbl #[]) := fun b hb => by rw [eH]; exact if_pos hb
  have Ho : ∀ b, ¬ isT b → H b = Z b := fun b hb => by rw [eH]; exact if_neg hb
  have seen : SqL (K w.params) H a (ns.map V.int) := by
    rcases seen with (z | ⟨ob, z⟩) | z
    · exact .inl (.inl (by rw [Ho a aT]; exact z))
    · exact .inl (.inr ⟨ob, by rw [Ho a aT]; exact z⟩)
    · exact .inr z
  have what : ∀ b u, H b = some u → (isT b ∧ u = .tbl #[]) ∨ (¬ isT b ∧ b = a ∧ (K w.params).lookup a = none ∧ ∃ ob ys, u = .frz ob (.lst ys) ∧ Z b = some u) := fun b u e => by
    by_cases hb : isT b
    · rw [HP b hb] at e
      exact .inl ⟨hb, (Option.some.inj e).symm⟩
    · rw [Ho b hb] at e
      obtain ⟨h1, h2⟩ := dom b u e
      rcases only b with z | ⟨ob, ys, z⟩
      · rw [z] at e; cases e
      · rw [z] at e
        exact .inr ⟨hb, h1, h2, ob, ys, (Option.some.inj e).symm, by rw [z]; exact e⟩
  have hok : HOk l.prog w H s1.heap := fun b u e => by
    rcases what b u e with ⟨hb, rfl⟩ | ⟨_, _, _, ob, ys, rfl, z⟩
    · exact isT0 b hb
    · exact hok b _ z
  have free : ∀ {b : Addr} {o : Obj}, s1.heap.get? b = some o → (∀ xs k, o.data ≠ .seq xs k) → o.data ≠ .fields #[] → H b = none := fun {b o} e n1 n2 => by
    cases q : H b with
    | none => rfl
    | some u =>
      rcases what b u q with ⟨hb, _⟩ | ⟨_, rfl, _⟩
      · rw [isT0 b hb] at e
        cases e
        exact (n2 rfl).elim
      · rw [hobj] at e
        cases e
        exact (n1 _ _ rfl).elim
  have dk : ∀ {b : Addr} {o : Obj} {es : Array DictEntry} {ep : Nat}, s1.heap.get? b = some o → o.data = .dict es ep → H b = none := fun {b o es ep} e dd => free e (by rw [dd]; intro _ _ z; cases z) (by rw [dd]; intro z; cases z)
  have ns : ∀ {b : Addr} {m : Str → Option Value}, s1.heap.Ns b m → (hidT s1.heap H).Ns b m := fun {b m} ⟨o, es, ep, e, dd, r⟩ => ⟨o, es, ep, hidT_get e (dk e dd), dd, r⟩
  have inK : (K w.params).In (hidT s1.heap H) := fun b o e => hidT_get (KX b o e) (by
    cases q : H b with
    | none => rfl
    | some u =>
      rcases what b u q with ⟨⟨p, hp, rfl⟩, _⟩ | ⟨_, rfl, z, _⟩
      · rw [(nC p hp).1] at e; cases e
      · rw [z] at e; cases e)
  have M : Mod (K w.params) mg (hidT s1.heap H) := ⟨inK, ns G.T.g, ⟨mb, ns G.T.b, G.T.builtins⟩, let ⟨mc, h1, h2⟩ := G.T.nolimit; ⟨mc, ns h1, h2⟩⟩
  have e0 : Env0 l.prog w (K w.params) mg (hidT s1.heap H) callerA [] s1 H := ⟨rfl, M, fun b o e => of_hidT e, Nat.le_of_eq (hidT_size _ _), trivial, fun b z => absurd (show b ∈ ([] : List Addr) from z) (by simp), hok, AllBare.of_eq hg⟩
  have gP : ∀ P, isT P → mainGlobals ≠ P := fun P hb z => by
    obtain ⟨o, es, ep, e, dd, _⟩ := G.T.g
    rw [z, isT0 P hb] at e
    cases e
    cases dd
  have bmP : ∀ P, isT P → (hidT s1.heap H).BuiltinsAt mg P := fun P hb => by
    obtain ⟨bm, ob, b1, b2, b3, b4, b5, b6⟩ := G.T.bmain
    refine ⟨bm, ob, b1, b2, fun z => ?_, fun z => ?_, hidT_get b3 (free b3 (by rw [b6]; intro _ _ z; cases z) (by rw [b6]; intro z; cases z)), b4, b5, b6⟩
    · obtain ⟨o, es, ep, e, dd, _⟩ := G.T.g
      rw [z, e] at b3
      cases b3
      rw [dd] at b6
      cases b6
    · rw [z, isT0 P hb] at b3
      cases b3
      cases b6
  have TB : ∀ p ∈ Ts, TabB (hidT s1.heap H) mg p.1 p.2 := fun p hp => ⟨PySem.W.codeHd_of_K inK (nC p hp).2, bmP _ ⟨p, hp, rfl⟩, gP _ ⟨p, hp, rfl⟩⟩
  refine codeAny_mono ((hF _ inK (ns G.T.g) TB).run callerA [] s1 H ⟨[.ref a], []⟩ [.ref a] [.ref a] _ _ rfl hr e0 (hb s1 (.ref a)) (.cons rfl .nil) (hsp _ H a _ hlen seen fun p hp => HP _ ⟨p, hp, rfl⟩)) fun r s' h => ?_
  rcases r with e | fl
  · exact (h : False).elim
  · cases fl with
    | next => exact (h : False).elim
    | brk => exact (h : False).elim
    | cont => exact (h : False).elim
    | ret u =>
      obtain ⟨v, H', os, bare, un, hok', rv, qv⟩ := h
      obtain rfl : v = .bl true := qv
      obtain rfl : u = Value.bool true := rv
      have mores : ∀ b, isT b → ∃ more : Array Value, s'.heap.get? b = some { cls := .none, data := .fields more } := fun b hb => by
        obtain ⟨more, z⟩ := un.tbls b #[] (HP b hb)
        exact ⟨_, hok' b _ z⟩
      have stays : ∀ b o, ¬ isT b → s1.heap.get? b = some o → s'.heap.get? b = some o := fun b o hb e => by
        cases z : H b with
        | none => exact un.keep b o e z (fun z => absurd (show b ∈ ([] : List Addr) from z) (by simp)) (by simp)
        | some u =>
          rcases what b u z with ⟨z2, _⟩ | ⟨_, _, _, ob, ys, rfl, _⟩
          · exact absurd z2 hb
          · obtain ⟨g1, _⟩ := hok b _ z
            obtain ⟨g2, _⟩ := hok' b _ (un.frzs b ob _ z)
            rw [e] at g1
            cases g1
            exact g2
      refine ⟨rfl, ⟨fun b o e => ?_, fun b o e => ?_⟩, os, bare⟩
      · by_cases hb : isT b
        · obtain ⟨more, ht⟩ := mores b hb
          obtain ⟨p, hp, rfl⟩ := hb
          have hPp := hP p hp
          rw [hPp] at e
          cases e
          exact .inr (.inl ⟨((PySem.W.codeHd_of_K KX (nC p hp).2).tab hPp).isCodeTable, rfl, #[], more, rfl, by rw [Array.empty_append]; exact ht⟩)
        · exact .inl (stays b o hb e)
      · by_cases hb : isT b
        · obtain ⟨more, ht⟩ := mores b hb
          exact ⟨_, ht⟩
        · exact ⟨o, stays b o hb e⟩
end Nv
set_option maxHeartbeats 2000000
set_option pp.maxSteps 2500
set_option Elab.async false
set_option linter.all false
set_option maxRecDepth 100000
namespace Nv
open PySem PySem.Spec PyProof.Rows L2
section
variable {P : Program} {w : World} {K : PySem.W.Frag} {mg : Str → Option Value} {base : Heap}
set_option pp.maxSteps 300
/-! ### the law -/
def ltB : Book := [[(0, 0), (1, 1)], []]
def ltL : List Plc := [(0, [(2, [1, 0]), (1, [0, 2])]), (1, []), (0, [(0, [0, 1]), (1, [2, 0])])]
theorem lt_ok : OkB ltB := okB_by (by decide) (by decide) (by decide +kernel) (by decide +kernel)
theorem lt_lay : LayOk ltB 2 ltL := by
  have lots : ∀ p ∈ ltL, ∀ m ∈ p.2, m.2.length = 2 ∧ ∀ n ∈ m.2, 0 ≤ n := by decide
  refine ⟨by decide, by decide, by decide, by decide, by decide, by decide, ?_, lots⟩
  intro p hp i m q hm hq
  simp only [ltL, List.mem_cons, List.not_mem_nil, or_false] at hp
  have i2 : i < 2 := by
    have := (List.getElem?_eq_some_iff.mp hm).1
    rcases hp with rfl | rfl | rfl <;> (simp at this; try omega)
  have i01 : i = 0 ∨ i = 1 := by omega
  rcases hp with rfl | rfl | rfl <;> rcases i01 with rfl | rfl <;> first | (cases hm; cases hq; exact ⟨_, rfl, rfl⟩) | cases hm
theorem no_sm {w : Nat} {ps qs : List Plc} (sm : LaySm ps) (h : ∀ (k : Nat) (p : Plc), qs[k]? = some p → ∃ q, ps[k]? = some q ∧ NoP w p q) : LaySm qs := fun p hp m hm => by
  obtain ⟨k, hk⟩ := List.mem_iff_getElem?.mp hp
  obtain ⟨q, hq, n⟩ := h k p hk
  obtain ⟨i, hi⟩ := List.mem_iff_getElem?.mp hm
  obtain ⟨x, hx, _, e⟩ := n.at_ i m hi
  rcases e with e | e
  · rw [e]; exact sm q (List.mem_of_getElem? hq) x (List.mem_of_getElem? hx)
  · rw [e]
    intro z hz
    rw [(List.mem_replicate.mp hz).2]
    decide
abbrev lwL : List D := [.none, .bool true, .int 100, .int (-1), .str "0", .tuple [.int 0]]
theorem lw_next {b : Book} (fb : FormB b) {s : Nat} (hs : s < b.length) {d : D} (h : d ∈ lwL) : nextD (mvs b s) d = none := by
  simp only [lwL, List.mem_cons, List.not_mem_nil, or_false] at h
  rcases h with rfl | rfl | rfl | rfl | rfl | rfl
  · rfl
  · rfl
  · exact next_out fb hs (by decide)
  · exact next_out fb hs (by decide)
  · rfl
  · rfl
theorem lw_sh {e : Int} (h : -1 ≤ e ∧ e ≤ 1000) : ShowOk (.tuple [.str "BadRow", .int e, .bool true]) :=
  (ShW.tup (ShWL.cons (ShW.str (n := 6) (k := 0) (by decide +kernel) (by decide +kernel) (by decide +kernel)) (ShWL.cons (n := 0) (ShW.int (by omega)) (ShWL.cons (n := 0) ShW.bl (ShWL.nil (n := 0)))))).ok
theorem lw_pl {n : Nat} {l : Lot} (hn : n ≤ 1000000) (hl : ShowOk (lotD l)) : ShowOk (lotD l) := hl
theorem lw_bad {b : Book} {d : D} {e : Int} (h : rowErr b d = some e) {ds : List D} (ed : d = .tuple ds) (hb : rowBad b 0 0 ds = none) (hl : ds.length ≤ 20000) : False := by
  subst ed
  rw [row_short hl, hb] at h
  cases h
abbrev eW (TT : List (Addr × Str)) (b : Book) (w : Nat) (ps : List Plc) (s2 s5 s6 s7 s8 s9 s10 s11 s12 : Sl) : Env' := [.un, .pt TT, s2, .im (layD w ps), .im (bookD b), s5, s6, s7, s8, s9, s10, s11, s12]
theorem sc_law : FnScope ["script", "pool", "till", "laying", "book", "some", "turn", "row", "place", "lot", "odd", "bad", "due"] ["script"] (defScope s_law) := ⟨rfl, rfl, rfl, by decide +kernel, rfl, by decide +kernel, by decide +kernel⟩
def q_law : Str := (Str.ofString "law" ++ Str.ofString ".<locals>.") ++ Str.ofString "<lambda>"
def spLaw (K : PySem.W.Frag) (Ts : List (Addr × Addr)) : Sp := fun vs H Q _ => ∃ (a : Addr) (ns : List Int), vs = [.ref a] ∧ SqL K H a (ns.map V.int) ∧ ns.length ≤ 63 ∧ (∀ p ∈ Ts, H p.2 = some (.tbl #[])) ∧ ∀ H', Q (.bl true) H'
set_option maxHeartbeats 8000000 in
theorem ok_law (T : Tx K mg)
    {cl0 Pt0 : Addr} {kV0 doc0 pm0 ct0 oc0 : Value} {an0 od0 : Option Addr} {osl0 : Array (Option Value)}
    (lk0 : K.lookup T.law.f = some ⟨oc0, od0, .func (PySem.W.fnOf "law" "law" (defArgs s_law) (defBody s_law) (defScope s_law) .none kV0 doc0 pm0 an0 (.ref cl0) ct0), osl0⟩) (cd0 : PySem.W.codeIn K (.ref cl0) "law" = true) (TB0 : LamX.TabB base mg cl0 Pt0)
    {cl1 Pt1 : Addr} {kV1 doc1 pm1 ct1 oc1 : Value} {an1 od1 : Option Addr} {osl1 : Array (Option Value)}
    (lk1 : K.lookup T.law_long_right.f = some ⟨oc1, od1, .func (PySem.W.fnOf "_law_long_right" "_law_long_right" (defArgs s_law_long_right) (defBody s_law_long_right) (defScope s_law_long_right) .none kV1 doc1 pm1 an1 (.ref cl1) ct1), osl1⟩) (cd1 : PySem.W.codeIn K (.ref cl1) "_law_long_right" = true) (TB1 : LamX.TabB base mg cl1 Pt1) (hD0_1 : Pt0 ≠ Pt1) :
    FnG P w K mg base CX0 12 T.law.f (PySem.W.fnOf "law" "law" (defArgs s_law) (defBody s_law) (defScope s_law) .none kV0 doc0 pm0 an0 (.ref cl0) ct0) ["script"] (spLaw K [(cl0, Pt0), (cl1, Pt1)]) := by
  obtain ⟨TT, eT⟩ : ∃ TT : List (Addr × Str), TT = [(Pt0, q_law), (Pt1, q_law_long_right)] := ⟨_, rfl⟩
  have hT0 : (Pt0, q_law) ∈ TT := by rw [eT]; simp
  have hN0 : ∀ p ∈ TT, p.1 = Pt0 → p.2 = q_law := fun p hp e => by
    rw [eT] at hp
    simp only [List.mem_cons, List.not_mem_nil, or_false] at hp
    rcases hp with rfl | rfl
    · rfl
    · exact absurd e.symm hD0_1
  have hT1 : (Pt1, q_law_long_right) ∈ TT := by rw [eT]; simp
  have hN1 : ∀ p ∈ TT, p.1 = Pt1 → p.2 = q_law_long_right := fun p hp e => by
    rw [eT] at hp
    simp only [List.mem_cons, List.not_mem_nil, or_false] at hp
    rcases hp with rfl | rfl
    · exact absurd e hD0_1
    · rfl
  refine fnG_of lk0 cd0 sc_law (fun vs H Q E h => ?_) fun A outer s H vs Q E hG hr h => ?_
  · obtain ⟨a, ns, rfl, _⟩ := h; rfl
  · obtain ⟨a, ns, rfl, hs, hn, hP, q⟩ := h
    refine ⟨_, PSs.nox (pss_cons (ps_set (i := 1) sc_law.nd rfl (.inl rfl) (pe_call (ok_law_pool T) (hr.mono (by decide)) (by rfl) T.law_pool.g T.law_pool.F.kp T.law_pool.b .nil pass0 (pa_cons (pv 0) pa_nil))) (show PSs _ _ (liftS ⟨K, clT T, E⟩ _) from (vs_cons (vs_set (i := 2) sc_law.nd rfl (.inl rfl) (ve_tup (va_cons (ve_tup (va_cons (ve_tup (va_cons ve_int (va_cons ve_int va_nil))) (va_cons (ve_tup (va_cons ve_int (va_cons ve_int va_nil))) va_nil))) (va_cons (ve_tup va_nil) va_nil))))
      (vs_cons (vs_set (i := 3) sc_law.nd rfl (.inr rfl) (ve_tup (va_cons ve_int (va_cons (ve_tup (va_cons (ve_tup (va_cons ve_int (va_cons (ve_tup (va_cons (ve_tup (va_cons ve_int (va_cons (ve_tup (va_cons ve_int (va_cons ve_int va_nil))) va_nil))) (va_cons (ve_tup (va_cons ve_int (va_cons (ve_tup (va_cons ve_int (va_cons ve_int va_nil))) va_nil))) va_nil))) va_nil))) (va_cons (ve_tup (va_cons ve_int (va_cons (ve_tup va_nil) va_nil))) (va_cons (ve_tup (va_cons ve_int (va_cons (ve_tup (va_cons (ve_tup (va_cons ve_int (va_cons (ve_tup (va_cons ve_int (va_cons ve_int va_nil))) va_nil))) (va_cons (ve_tup (va_cons ve_int (va_cons (ve_tup (va_cons ve_int (va_cons ve_int va_nil))) va_nil))) va_nil))) va_nil))) va_nil)))) va_nil))))
      (vs_cons (vs_if (PW.pt (vw_or (vt_cmp (op_neDK K hr.units) c_neD (ve_call (pe_call (okV_lot_of T) (hr.mono (by decide)) (by rfl) T.lot_of.g T.lot_of.F.kp T.lot_of.b .nil pass0 (va_cons (ve_var (pv 2)) (va_cons (ve_var (pv 3)) (va_cons (ve_tup (va_cons ve_int (va_cons ve_int (va_cons ve_int (va_cons ve_int va_nil))))) va_nil)))) (fun _ => .nil)) (ve_tup (va_cons ve_int (va_cons ve_int va_nil))) (nomark _)) (pw_or1 (vt_cmp (op_neDK K hr.units) c_neD (ve_call (pe_call (okV_met T) (hr.mono (by decide)) (by rfl) T.met.g T.met.F.kp T.met.b .nil pass0 (va_cons (ve_var (pv 2)) (va_cons (ve_var (pv 3)) va_nil))) (fun _ => .nil)) (ve_tup (va_cons (ve_tup (va_cons (ve_tup va_nil) (va_cons ve_int va_nil))) (va_cons (ve_tup (va_cons (ve_tup (va_cons ve_int va_nil)) (va_cons ve_int va_nil))) (va_cons (ve_tup (va_cons (ve_tup (va_cons ve_int va_nil)) (va_cons ve_int va_nil))) va_nil)))) (nomark _)))))
        (vs_one (vs_ret ve_bl))
        vs_nil)
      (vs_cons (vs_set (i := 4) sc_law.nd rfl (.inr rfl) (ve_call (pe_call (okV_law_book_drawn T) (hr.mono (by decide)) (by rfl) T.law_book_drawn.g T.law_book_drawn.F.kp T.law_book_drawn.b .nil pass0 (va_cons (ve_var (pv 1)) (va_cons ve_int (va_cons ve_int va_nil)))) (fun _ => .nil)))
      (vs_cons (vs_set (i := 3) sc_law.nd rfl (.inr rfl) (ve_call (pe_call (okV_law_lay_drawn T) (hr.mono (by decide)) (by rfl) T.law_lay_drawn.g T.law_lay_drawn.F.kp T.law_lay_drawn.b .nil pass0 (va_cons (ve_var (pv 1)) (va_cons (ve_var (pv 4)) (va_cons (ve_call (pe_call (okV_law_pick T) (hr.mono (by decide)) (by rfl) T.law_pick.g T.law_pick.F.kp T.law_pick.b .nil pass0 (va_cons (ve_var (pv 1)) (va_cons (ve_lst (va_cons ve_int (va_cons ve_int (va_cons ve_int (va_cons ve_int (va_cons ve_int (va_cons ve_int va_nil))))))) va_nil))) (fun _ => .nil)) (va_cons ve_int (va_cons ve_int va_nil)))))) (fun _ => .nil)))
      (vs_cons (vs_for PassesOwn.never rfl (vi_seq (pi_anyK K (ve_lst (va_cons (ve_var (pv 3)) (va_cons (ve_call (pe_call (okV_law_with_noughts T) (hr.mono (by decide)) (by rfl) T.law_with_noughts.g T.law_with_noughts.F.kp T.law_with_noughts.b .nil pass0 (va_cons (ve_var (pv 1)) (va_cons (ve_var (pv 3)) va_nil))) (fun _ => .nil)) va_nil))))) (vg_name (pg_name (i := 5) sc_law.nd rfl (.inl rfl)))
        (vs_cons (vs_for PassesOwn.never rfl (vi_range1 (pi_range1 (by rfl) T.n_range (va_cons ve_int va_nil))) (vg_name (pg_name (i := 6) sc_law.nd rfl (.inl rfl)))
          (vs_cut (vs_set (i := 7) sc_law.nd rfl (.inl rfl) (ve_if (vt_cmp op_eq c_eqS (ve_var (pv 6)) ve_int (nomark _)) (ve_tup va_nil) (ve_call (pe_call (okV_law_book_row T) (hr.mono (by decide)) (by rfl) T.law_book_row.g T.law_book_row.F.kp T.law_book_row.b .nil pass0 (va_cons (ve_var (pv 1)) (va_cons (ve_var (pv 4)) (va_cons ve_int va_nil)))) (fun _ => .nil))))
          (vs_cons (vs_asg (ps_asg (ve_call (pe_call (okV_law_lay_walk T) (hr.mono (by decide)) (by rfl) T.law_lay_walk.g T.law_lay_walk.F.kp T.law_lay_walk.b .nil pass0 (va_cons (ve_var (pv 4)) (va_cons (ve_var (pv 5)) (va_cons ve_int (va_cons (ve_var (pv 7)) va_nil))))) (fun _ => .nil)) (vg_tup (pg_tupK (n := 2) K rfl (vgs_cons (vg_name (pg_name (i := 8) sc_law.nd rfl (.inl rfl))) (vgs_cons (vg_name (pg_name (i := 9) sc_law.nd rfl (.inl rfl))) vgs_nil))))))
          (vs_one (vs_if (vt_cmp op_ne c_neS (ve_cb (pe_callB (call_reprAK K hr.units hG) (by rfl) T.n_repr (by decide +kernel) (va_cons (ve_lst (va_cons (ve_call (pe_call (okV_place_at T) (hr.mono (by decide)) (by rfl) T.place_at.g T.place_at.F.kp T.place_at.b .nil pass0 (va_cons (ve_var (pv 4)) (va_cons (ve_var (pv 5)) (va_cons (ve_var (pv 7)) va_nil)))) (fun _ => .nil)) (va_cons (ve_call (pe_call (okV_lot_of T) (hr.mono (by decide)) (by rfl) T.lot_of.g T.lot_of.F.kp T.lot_of.b .nil pass0 (va_cons (ve_var (pv 4)) (va_cons (ve_var (pv 5)) (va_cons (ve_var (pv 7)) va_nil)))) (fun _ => .nil)) va_nil))) va_nil)) c_repr) (ve_cb (pe_callB (call_reprAK K hr.units hG) (by rfl) T.n_repr (by decide +kernel) (va_cons (ve_lst (va_cons (ve_var (pv 8)) (va_cons (ve_var (pv 9)) va_nil))) va_nil)) c_repr) (nomark _))
            (vs_one (vs_ret ve_bl))
            vs_nil)))))
        (vs_one (vs_if (vt_not (vt_val (ve_call (pe_callG (okV_law_seen_right T) hG (hr.mono (by decide)) (by rfl) T.law_seen_right.g T.law_seen_right.F.kp T.law_seen_right.b .nil pass0 (va_cons (ve_var (pv 1)) (va_cons (ve_var (pv 4)) (va_cons (ve_var (pv 5)) va_nil)))) (fun _ => .nil))))
          (vs_one (vs_ret ve_bl))
          vs_nil))))
      (vs_cut (vs_if (PW.pt (vw_and (vt_cmp op_eq c_eqS (ve_call (pe_call (okV_law_draw T) (hr.mono (by decide)) (by rfl) T.law_draw.g T.law_draw.F.kp T.law_draw.b .nil pass0 (va_cons (ve_var (pv 1)) (va_cons ve_int va_nil))) (fun _ => .nil)) ve_int (nomark _)) (pw_and1 (vt_not (vt_val (ve_callLm 1 (pe_callG (okV_law_long_right T lk1 cd1 TB1 hT1 hN1) hG (hr.mono (by decide)) (by rfl) T.law_long_right.g T.law_long_right.F.kp T.law_long_right.b .nil pass0 (va_cons (ve_var (pv 1)) va_nil))))))))
        (vs_one (vs_ret ve_bl))
        vs_nil)
      (vs_cons (vs_set (i := 7) sc_law.nd rfl (.inl rfl) (ve_call (pe_call (okV_law_book_row T) (hr.mono (by decide)) (by rfl) T.law_book_row.g T.law_book_row.F.kp T.law_book_row.b .nil pass0 (va_cons (ve_var (pv 1)) (va_cons (ve_var (pv 4)) (va_cons ve_int va_nil)))) (fun _ => .nil)))
      (vs_cons (vs_set (i := 10) sc_law.nd rfl (.inl rfl) (ve_call (pe_call (okV_law_pick T) (hr.mono (by decide)) (by rfl) T.law_pick.g T.law_pick.F.kp T.law_pick.b .nil pass0 (va_cons (ve_var (pv 1)) (va_cons (ve_lst (va_cons ve_non (va_cons ve_bl (va_cons ve_int (va_cons (ve_un un_neg c_neg ve_int) (va_cons ve_str (va_cons (ve_tup (va_cons ve_int va_nil)) va_nil))))))) va_nil))) (fun _ => .nil)))
      (vs_cons (vs_for PassesOwn.never rfl (vi_seq (pi_anyK K (ve_lst (va_cons (ve_tup (va_cons (ve_op (op_catAZK K) c_catT (ve_var (pv 7)) (ve_tup (va_cons (ve_var (pv 10)) va_nil))) (va_cons (ve_cb (pe_callB (call_len_seqK K) (by rfl) T.n_len PySem.boot_len (va_cons (ve_var (pv 7)) va_nil)) c_len) va_nil))) (va_cons (ve_tup (va_cons ve_non (va_cons (ve_un un_neg c_neg ve_int) va_nil))) (va_cons (ve_tup (va_cons (ve_op (op_catAZK K) c_catT (ve_tup (va_cons (ve_var (pv 10)) va_nil)) (ve_var (pv 7))) (va_cons ve_int va_nil))) (va_cons (ve_tup (va_cons (ve_cb (pe_callTy (call_list_ofK K) (by rfl) T.n_list (by decide +kernel) (va_cons (ve_var (pv 7)) va_nil)) c_listOf) (va_cons (ve_un un_neg c_neg ve_int) va_nil))) va_nil))))))) (vg_tup (pg_tupK (n := 2) K rfl (vgs_cons (vg_name (pg_name (i := 11) sc_law.nd rfl (.inr rfl))) (vgs_cons (vg_name (pg_name (i := 12) sc_law.nd rfl (.inl rfl))) vgs_nil))))
        (vs_cons (vs_if (vt_cmp op_ne c_neS (ve_cb (pe_callB (call_reprAK K hr.units hG) (by rfl) T.n_repr (by decide +kernel) (va_cons (ve_heard T 1 rfl hT0 (pe_heardP (k := 8) T rfl rfl (by rfl) TB0 hT0 hN0 rfl (hr.mono (by decide)) (LamX.lamS_by (sc := defScope s_law) (by decide +kernel)) rfl (fun _ _ _ _ _ => rfl) (fun _ _ _ _ _ _ _ hr => (ve_callX (pe_call (okX_place_at T) (hr.mono (by decide)) (by rfl) T.place_at.g T.place_at.F.kp T.place_at.b .nil (passes_call (takes_of rfl rfl rfl rfl) (fun _ _ _ _ h => h)) (va_cons (ve_var (pv 4)) (va_cons (ve_var (pv 3)) (va_cons (ve_var (pv 11)) va_nil)))) (fun _ => .nil))))) va_nil)) c_repr) (ve_cb (pe_callB (call_reprAK K hr.units hG) (by rfl) T.n_repr (by decide +kernel) (va_cons (ve_tup (va_cons ve_str (va_cons (ve_var (pv 12)) (va_cons ve_bl va_nil)))) va_nil)) c_repr) (nomark _))
          (vs_one (vs_ret ve_bl))
          vs_nil)
        (vs_one (vs_if (vt_cmp op_ne c_neS (ve_cb (pe_callB (call_reprAK K hr.units hG) (by rfl) T.n_repr (by decide +kernel) (va_cons (ve_heard T 1 rfl hT0 (pe_heardP (k := 8) T rfl rfl (by rfl) TB0 hT0 hN0 rfl (hr.mono (by decide)) (LamX.lamS_by (sc := defScope s_law) (by decide +kernel)) rfl (fun _ _ _ _ _ => rfl) (fun _ _ _ _ _ _ _ hr => (ve_callX (pe_call (okX_lot_of T) (hr.mono (by decide)) (by rfl) T.lot_of.g T.lot_of.F.kp T.lot_of.b .nil (passes_call (takes_of rfl rfl rfl rfl) (fun _ _ _ _ h => h)) (va_cons (ve_var (pv 4)) (va_cons (ve_var (pv 3)) (va_cons (ve_var (pv 11)) va_nil)))) (fun _ => .nil))))) va_nil)) c_repr) (ve_cb (pe_callB (call_reprAK K hr.units hG) (by rfl) T.n_repr (by decide +kernel) (va_cons (ve_tup (va_cons ve_str (va_cons (ve_var (pv 12)) (va_cons ve_bl va_nil)))) va_nil)) c_repr) (nomark _))
          (vs_one (vs_ret ve_bl))
          vs_nil))))
      (vs_one (vs_ret ve_bl)))))))))))))), ?_⟩
    have T0 : LamX.Tabs TT H := tabs_start fun p hp => by
      rw [eT] at hp
      simp only [List.mem_cons, List.not_mem_nil, or_false] at hp
      rcases hp with rfl | rfl
      · exact hP (cl0, Pt0) (by simp)
      · exact hP (cl1, Pt1) (by simp)
    refine ⟨_, rfl, a, ns, rfl, hs, hn, fun p l H1 hp hl P1 e1 => ?_⟩
    refine law_start (n := 11) P1 (T0.ext e1.toSame) q ?_
    clear hP hs hn q hp hl P1 e1 T0
    refine ⟨ltB, 2, ltL, .tuple [.int 0, .int 0, .int 0, .int 1], lt_ok, lt_lay, rfl, rfl, rfl, fun e he => ?_, fun ds e _ _ => ?_⟩
    · have : rowErr ltB (.tuple [.int 0, .int 0, .int 0, .int 1]) = none := by decide +kernel
      rw [this] at he
      cases he
    cases e
    have e1 : sumL 2 ((walkL ltB ltL 0 [.int 0, .int 0, .int 0, .int 1]).map (·.2)) = [4, 1] := by decide +kernel
    rw [e1]
    refine ⟨sh2 _ _, sh2 _ _, ?_⟩
    show if (!PyData.eqv (.tuple [.int 4, .int 1]) (.tuple [.int 4, .int 1])) = true then _ else _
    rw [eqv2]
    refine ⟨ltB, 2, ltL, lt_ok, lt_lay, rfl, rfl, ?_⟩
    have e2 : metD (mvL ltB ltL) 0 = .tuple [.tuple [.tuple [], .int 0], .tuple [.tuple [.int 0], .int 2], .tuple [.tuple [.int 1], .int 1]] := rfl
    rw [e2]
    refine ⟨by decide +kernel, by decide +kernel, ?_⟩
    show if (!PyData.eqv (.tuple [.tuple [.tuple [], .int 0], .tuple [.tuple [.int 0], .int 2], .tuple [.tuple [.int 1], .int 1]]) (.tuple [.tuple [.tuple [], .int 0], .tuple [.tuple [.int 0], .int 2], .tuple [.tuple [.int 1], .int 1]])) = true then _ else _
    rw [show PyData.eqv (.tuple [.tuple [.tuple [], .int 0], .tuple [.tuple [.int 0], .int 2], .tuple [.tuple [.int 1], .int 1]]) (.tuple [.tuple [.tuple [], .int 0], .tuple [.tuple [.int 0], .int 2], .tuple [.tuple [.int 1], .int 1]]) = true by decide +kernel]
    clear e1 e2
    refine ⟨4, 3, rfl, rfl, rfl, by decide, by decide, by decide, fun b okb b4 b3 => ?_⟩
    have fb := okb.toFormB
    refine ⟨_, rfl, rfl, by decide, by decide, fun d hd => ?_⟩
    obtain ⟨w, rfl, hw⟩ : ∃ w : Nat, d = .int (w : Int) ∧ w ≤ 4 := by
      simp only [List.mem_cons, List.not_mem_nil, or_false] at hd
      rcases hd with rfl | rfl | rfl | rfl | rfl | rfl
      · exact ⟨0, rfl, by omega⟩
      · exact ⟨1, rfl, by omega⟩
      · exact ⟨2, rfl, by omega⟩
      · exact ⟨2, rfl, by omega⟩
      · exact ⟨3, rfl, by omega⟩
      · exact ⟨4, rfl, by omega⟩
    refine ⟨b, w, 3, 3, rfl, rfl, rfl, rfl, rfl, fb, by omega, by omega, by omega, by omega, fun ps ok sm hps => ?_⟩
    refine ⟨b, w, ps, ⟨fb, ok⟩, rfl, rfl, fun qs hql hq => ?_⟩
    have okq := ok.no hql hq
    have smq := no_sm sm hq
    refine ⟨fun i ρ => ∃ (s2 s5 s6 s7 s8 s9 s10 s11 s12 : Sl), ρ = eW TT b w ps s2 s5 s6 s7 s8 s9 s10 s11 s12, ⟨_, _, _, _, _, _, _, _, _, rfl⟩, ?_, ?_⟩
    · rintro i it ρ hit ⟨s2, s5, s6, s7, s8, s9, s10, s11, s12, rfl⟩
      obtain ⟨ps', rfl, ok', sm', len'⟩ : ∃ ps', it = .one (.p (layD w ps')) ∧ LayOk b w ps' ∧ LaySm ps' ∧ ps'.length ≤ 100 := by
        match i, hit with
        | 0, h => cases h; exact ⟨ps, rfl, ok, sm, by omega⟩
        | 1, h => cases h; exact ⟨qs, rfl, okq, smq, by omega⟩
        | _ + 2, h => cases h
      obtain ⟨p0, hp0, e0⟩ := ok'.p0
      refine ⟨⟨by decide, by decide⟩, fun j ρ => ∃ (s2 s6 s7 s8 s9 s10 s11 s12 : Sl), ρ = eW TT b w ps s2 (.im (layD w ps')) s6 s7 s8 s9 s10 s11 s12, ⟨_, _, _, _, _, _, _, _, rfl⟩, ?_, ?_⟩
      · rintro j jt ρ hjt ⟨s2, s6, s7, s8, s9, s10, s11, s12, rfl⟩
        obtain ⟨hlt, rfl⟩ := rgI_at hjt
        refine ⟨fun ρ => ∃ (row : List Nat) (t : Nat) (s2 s6 s8 s9 s10 s11 s12 : Sl), walkB b 0 row = some t ∧ row.length ≤ 15 ∧ ρ = eW TT b w ps s2 (.im (layD w ps')) s6 (.im (rwD row)) s8 s9 s10 s11 s12, ?_, ?_⟩
        · show if decide ((0 + (j : Int)) = 0) = true then _ else _
          by_cases z : (0 + (j : Int)) = 0
          · rw [decide_eq_true z]
            exact ⟨[], 0, _, _, _, _, _, _, _, rfl, by simp, rfl⟩
          · rw [decide_eq_false z]
            exact ⟨b, 15, rfl, rfl, rfl, fb, by omega, fun row t hrow ht hl => ⟨row, t, _, _, _, _, _, _, _, hrow, hl, rfl⟩⟩
        · rintro ρ ⟨row, t, s2, s6, s8, s9, s10, s11, s12, hrow, hl, rfl⟩
          have hbad := walkB_lay hrow
          have noX : ∀ e, rowErr b (rwD row) = some e → False := fun e he => by
            have := row_short (b := b) (ds := natsD row) (by rw [natsD_len]; omega)
            rw [rwD_nats, this, hbad] at he
            cases he
          have hb0 : rowBad b p0.1 0 (natsD row) = none := by rw [e0]; exact hbad
          have shl := sum_sh ok' (by rw [hp0]; rfl) sm' hp0 hb0 (by rw [natsD_len]; exact hl)
          have elt : endL b ps' 0 (natsD row) ≤ 1000000 := by
            obtain ⟨wl, wk⟩ := ok'.walk hp0 hb0
            unfold endL
            have hm := List.getLast_mem (l := 0 :: (walkL b ps' 0 (natsD row)).map (·.1)) (by simp)
            rcases List.mem_cons.mp hm with e | hm
            · rw [e]; omega
            · obtain ⟨x, hx, e⟩ := List.mem_map.mp hm
              rw [← e]
              have := (wk x hx).2
              omega
          have shA : ShowOk (.list [.int (endL b ps' 0 (natsD row) : Int), lotD (sumL w ((walkL b ps' 0 (natsD row)).map (·.2)))]) := by
            exact (ShW.lst ((ShWL.cons (ShW.nat elt (m := 0)) (ShWL.cons shl (ShWL.nil (n := 0)))).mono (Nat.le_refl _) (Nat.le_refl _))).ok
          refine ⟨b, w, ps', 0, p0, natsD row, ⟨fb, ok'⟩, rfl, rfl, rfl, rfl, hp0, hb0, rfl, ?_⟩
          refine ⟨b, w, ps', rwD row, okb, ok', rfl, rfl, rfl, noX, fun ds e _ _ => ?_⟩
          cases e
          refine ⟨b, w, ps', rwD row, okb, ok', rfl, rfl, rfl, noX, fun ds e _ _ => ?_⟩
          cases e
          refine ⟨shA, shA, ?_⟩
          show if (!decide (((PyData.list [.int (endL b ps' 0 (natsD row) : Int), lotD (sumL w ((walkL b ps' 0 (natsD row)).map (·.2)))]).shown) = ((PyData.list [.int (endL b ps' 0 (natsD row) : Int), lotD (sumL w ((walkL b ps' 0 (natsD row)).map (·.2)))]).shown))) = true then _ else _
          rw [decide_eq_true rfl]
          exact ⟨_, _, _, _, _, _, _, _, rfl⟩
      · rintro ρ ⟨s2, s6, s7, s8, s9, s10, s11, s12, rfl⟩
        exact ⟨b, w, ps', okb, ok', sm', len', rfl, rfl, rfl, _, _, _, _, _, _, _, _, _, rfl⟩
    rintro ρ ⟨s2, s5, s6, s7, s8, s9, s10, s11, s12, rfl⟩
    refine ⟨fun ρ => ∃ (s2 s5 s6 s7 s8 s9 s10 s11 s12 : Sl), ρ = eW TT b w ps s2 s5 s6 s7 s8 s9 s10 s11 s12, ?_, ?_⟩
    · refine ⟨12, rfl, rfl, by decide, by decide, fun r r0 r1 => ?_⟩
      show if decide (r = 0) = true then _ else _
      by_cases z : r = 0
      · rw [decide_eq_true z]
        exact ⟨rfl, rfl, _, _, _, _, _, _, _, _, _, rfl⟩
      · rw [decide_eq_false z]
        exact ⟨_, _, _, _, _, _, _, _, _, rfl⟩
    rintro ρ ⟨s2, s5, s6, s7, s8, s9, s10, s11, s12, rfl⟩
    refine ⟨b, 4, rfl, rfl, rfl, fb, by omega, fun row t hrow ht hl => ?_⟩
    refine ⟨lwL, rfl, rfl, by decide, by decide, fun d hd => ?_⟩
    have hrl := natsD_len (l := row)
    have sz1 : (natsD row).length + 1 ≤ sizeLine := by rw [hrl]; exact Nat.le_of_lt (sz_le (m := 1000) (by omega) (by omega))
    have sz2 : 1 + (natsD row).length ≤ sizeLine := by omega
    refine ⟨sz1, sz2, ?_⟩
    refine ⟨fun i ρ => ∃ (s2 s5 s6 s7 s8 s9 s10 s11 s12 : Sl), ρ = eW TT b w ps s2 s5 s6 s7 s8 s9 s10 s11 s12, ⟨_, _, _, _, _, _, _, _, _, rfl⟩, ?_, ?_⟩
    · rintro i it ρ hit ⟨s2, s5, s6, s7, s8, s9, s10, s11, s12, rfl⟩
      obtain ⟨bad, e, rfl, he, h1, h2⟩ : ∃ (bad : D) (e : Int), it = .one (.o (.tuple [bad, .int e])) ∧ rowErr b bad = some e ∧ -1 ≤ e ∧ e ≤ 1000 := by
        have hnx := fun {s : Nat} (hs : s < b.length) => lw_next fb hs hd
        match i, hit with
        | 0, h =>
          cases h
          refine ⟨.tuple (natsD row ++ [d]), (row.length : Int), congrArg (fun z : Nat => Iv.one (Vl.o (.tuple [.tuple (natsD row ++ [d]), .int (z : Int)]))) hrl, ?_, by omega, by omega⟩
          rw [row_short (by rw [List.length_append, hrl]; simp; omega), walkB_bad hrow, rowBad, hnx ht, Nat.zero_add]
          rfl
        | 1, h => cases h; exact ⟨.none, -1, rfl, rfl, by omega, by omega⟩
        | 2, h =>
          cases h
          refine ⟨.tuple (d :: natsD row), 0, rfl, ?_, by omega, by omega⟩
          rw [row_short (by rw [List.length_cons, hrl]; omega), rowBad, hnx fb.one]
          rfl
        | 3, h => cases h; exact ⟨.list (natsD row), -1, rfl, rfl, by omega, by omega⟩
        | _ + 4, h => cases h
      have sh := lw_sh ⟨h1, h2⟩
      refine ⟨rfl, ?_⟩
      refine ⟨rfl, b, w, ps, bad, okb, ok, rfl, rfl, rfl, fun e' he' => ⟨by decide +kernel, ?_⟩, fun ds ed hb hl2 => (lw_bad he ed hb hl2).elim⟩
      rw [he] at he'
      cases he'
      refine ⟨sh, sh, ?_⟩
      show if (!decide (((PyData.tuple [.str "BadRow", .int e, .bool true]).shown) = ((PyData.tuple [.str "BadRow", .int e, .bool true]).shown))) = true then _ else _
      rw [decide_eq_true rfl]
      refine ⟨rfl, b, w, ps, bad, okb, ok, rfl, rfl, rfl, fun e' he' => ⟨by decide +kernel, ?_⟩, fun ds ed hb hl2 => (lw_bad he ed hb hl2).elim⟩
      rw [he] at he'
      cases he'
      refine ⟨sh, sh, ?_⟩
      show if (!decide (((PyData.tuple [.str "BadRow", .int e, .bool true]).shown) = ((PyData.tuple [.str "BadRow", .int e, .bool true]).shown))) = true then _ else _
      rw [decide_eq_true rfl]
      exact ⟨_, _, _, _, _, _, _, _, _, rfl⟩
    · rintro ρ ⟨s2, s5, s6, s7, s8, s9, s10, s11, s12, rfl⟩
      rfl
end
end Nv
namespace Nv
open PySem PySem.Spec PyProof.Rows L2
section
variable {K : PySem.W.Frag} {mg : Str → Option Value} {h : Heap}
def mkDef {name : Str} {st : Stmt} {ps : List Str} {f : Addr} {oc : Value} {od an : Option Addr} {osl : Array (Option Value)} {kV doc pm cdv ct : Value} (X : K.In h) (G : h.Ns mainGlobals mg)
    (a : PySem.W.nsIn K mainGlobals name = some (some (.ref f))) (l : K.lookup f = some ⟨oc, od, .func (PySem.W.fnOf name name (defArgs st) (defBody st) (defScope st) .none kV doc pm an cdv ct), osl⟩)
    (c : PySem.W.codeIn K cdv name = true) (k : PySem.W.keepIn K (.ref f) = true)
    (b : ∀ (kV doc pm : Value) (an : Option Addr) (cdv ct : Value) (us : List Value), us.length = ps.length → bindArgs (PySem.W.fnOf name name (defArgs st) (defBody st) (defScope st) .none kV doc pm an cdv ct) ⟨us, []⟩ = pure (ps.zip us)) : DefAt K mg name st ps :=
  ⟨f, _, fun_mk l c k, PySem.W.mg_of X G a, b kV doc pm an cdv ct⟩
def mkDefD {name : Str} {st : Stmt} {ps : List Str} {v : V} {u : Value} (r : RelV v u) {f dT : Addr} {oc doc1 : Value} {od an dod : Option Addr} {osl dsl : Array (Option Value)} {dn : Nat} {kV doc pm cdv ct : Value} (X : K.In h) (G : h.Ns mainGlobals mg)
    (a : PySem.W.nsIn K mainGlobals name = some (some (.ref f))) (l : K.lookup f = some ⟨oc, od, .func (PySem.W.fnOf name name (defArgs st) (defBody st) (defScope st) (.ref dT) kV doc pm an cdv ct), osl⟩)
    (c : PySem.W.codeIn K cdv name = true) (k : PySem.W.keepIn K (.ref f) = true) (d : K.lookup dT = some ⟨doc1, dod, .seq #[u] dn, dsl⟩) (n : Nat) (hn : n + 1 = ps.length)
    (b : ∀ (T : Addr) (kV doc pm : Value) (an : Option Addr) (cdv ct : Value) (us its : List Value), us.length = n → its.length = 1 →
      ∃ k, bindArgs (PySem.W.fnOf name name (defArgs st) (defBody st) (defScope st) (.ref T) kV doc pm an cdv ct) ⟨us, []⟩ = seqItems? (.ref T) >>= k ∧ k (some its.toArray) = pure (ps.zip (us ++ its.drop 0)))
    (b1 : ∀ (T : Addr) (kV doc pm : Value) (an : Option Addr) (cdv ct : Value) (us its : List Value), us.length = n + 1 → its.length = 1 →
      ∃ k, bindArgs (PySem.W.fnOf name name (defArgs st) (defBody st) (defScope st) (.ref T) kV doc pm an cdv ct) ⟨us, []⟩ = seqItems? (.ref T) >>= k ∧ k (some its.toArray) = pure (ps.zip (us ++ its.drop 1))) : DefAtD K mg name st ps [v] := by
  have F : FunD K name name (defArgs st) (defBody st) (defScope st) [v] [] f _ := ⟨⟨oc, od, .ref dT, kV, doc, pm, an, cdv, ct, osl, rfl, l, c, .inr ⟨by nofun, dT, _, [u], dn, rfl, d, rfl, .cons r .nil⟩, .inl rfl⟩, k⟩
  refine ⟨f, _, ⟨F⟩, PySem.W.mg_of X G a, ?_, F.binds1 n 0 (by nofun) (by simpa using hn) b⟩
  obtain ⟨ds, hv, hb⟩ := F.binds1 (n + 1) 1 (by nofun) (by simpa using hn) b1
  cases hv
  exact hb
end

set_option maxHeartbeats 0 in
theorem all_mk {l : PySem.W.OpenLaw} {w : World} {K : PySem.W.Frag} {h : Heap} {mg : Str → Option Value} {fa : Addr} (X : K.In h) (G : h.Ns mainGlobals mg) (hfa : mg "law" = some (.ref fa))
    {f0 : Addr} {oc0 kV0 dc0 pm0 cd0 ct0 : Value} {od0 an0 : Option Addr} {sl0 : Array (Option Value)}
    {f1 : Addr} {oc1 kV1 dc1 pm1 cd1 ct1 : Value} {od1 an1 : Option Addr} {sl1 : Array (Option Value)}
    {f2 : Addr} {oc2 kV2 dc2 pm2 cd2 ct2 : Value} {od2 an2 : Option Addr} {sl2 : Array (Option Value)}
    {f3 : Addr} {oc3 kV3 dc3 pm3 cd3 ct3 : Value} {od3 an3 : Option Addr} {sl3 : Array (Option Value)} {zT3 : Addr} {zc3 : Value} {zo3 : Option Addr} {zs3 : Array (Option Value)} {zn3 : Nat} {zk3 : Tok}
    {f4 : Addr} {oc4 kV4 dc4 pm4 cd4 ct4 : Value} {od4 an4 : Option Addr} {sl4 : Array (Option Value)}
    {f5 : Addr} {oc5 kV5 dc5 pm5 cd5 ct5 : Value} {od5 an5 : Option Addr} {sl5 : Array (Option Value)}
    {f6 : Addr} {oc6 kV6 dc6 pm6 cd6 ct6 : Value} {od6 an6 : Option Addr} {sl6 : Array (Option Value)}
    {f7 : Addr} {oc7 kV7 dc7 pm7 cd7 ct7 : Value} {od7 an7 : Option Addr} {sl7 : Array (Option Value)}
    {f8 : Addr} {oc8 kV8 dc8 pm8 cd8 ct8 : Value} {od8 an8 : Option Addr} {sl8 : Array (Option Value)}
    {f9 : Addr} {oc9 kV9 dc9 pm9 cd9 ct9 : Value} {od9 an9 : Option Addr} {sl9 : Array (Option Value)}
    {f10 : Addr} {oc10 kV10 dc10 pm10 cd10 ct10 : Value} {od10 an10 : Option Addr} {sl10 : Array (Option Value)}
    {f11 : Addr} {oc11 kV11 dc11 pm11 cd11 ct11 : Value} {od11 an11 : Option Addr} {sl11 : Array (Option Value)}
    {f12 : Addr} {oc12 kV12 dc12 pm12 cd12 ct12 : Value} {od12 an12 : Option Addr} {sl12 : Array (Option Value)}
    {f13 : Addr} {oc13 kV13 dc13 pm13 cd13 ct13 : Value} {od13 an13 : Option Addr} {sl13 : Array (Option Value)}
    {f14 : Addr} {oc14 kV14 dc14 pm14 cd14 ct14 : Value} {od14 an14 : Option Addr} {sl14 : Array (Option Value)}
    {f15 : Addr} {oc15 kV15 dc15 pm15 cd15 ct15 : Value} {od15 an15 : Option Addr} {sl15 : Array (Option Value)}
    {f16 : Addr} {oc16 kV16 dc16 pm16 cd16 ct16 : Value} {od16 an16 : Option Addr} {sl16 : Array (Option Value)}
    {f17 : Addr} {oc17 kV17 dc17 pm17 cd17 ct17 : Value} {od17 an17 : Option Addr} {sl17 : Array (Option Value)}
    {f18 : Addr} {oc18 kV18 dc18 pm18 cd18 ct18 : Value} {od18 an18 : Option Addr} {sl18 : Array (Option Value)}
    {f19 : Addr} {oc19 kV19 dc19 pm19 cd19 ct19 : Value} {od19 an19 : Option Addr} {sl19 : Array (Option Value)}
    {f20 : Addr} {oc20 kV20 dc20 pm20 cd20 ct20 : Value} {od20 an20 : Option Addr} {sl20 : Array (Option Value)}
    {f21 : Addr} {oc21 kV21 dc21 pm21 cd21 ct21 : Value} {od21 an21 : Option Addr} {sl21 : Array (Option Value)}
    {f22 : Addr} {oc22 kV22 dc22 pm22 cd22 ct22 : Value} {od22 an22 : Option Addr} {sl22 : Array (Option Value)}
    {f23 : Addr} {oc23 kV23 dc23 pm23 cd23 ct23 : Value} {od23 an23 : Option Addr} {sl23 : Array (Option Value)}
    {f24 : Addr} {oc24 kV24 dc24 pm24 cd24 ct24 : Value} {od24 an24 : Option Addr} {sl24 : Array (Option Value)}
    {f25 : Addr} {oc25 kV25 dc25 pm25 cd25 ct25 : Value} {od25 an25 : Option Addr} {sl25 : Array (Option Value)}
    {f26 : Addr} {oc26 kV26 dc26 pm26 cd26 ct26 : Value} {od26 an26 : Option Addr} {sl26 : Array (Option Value)}
    {f27 : Addr} {oc27 kV27 dc27 pm27 cd27 ct27 : Value} {od27 an27 : Option Addr} {sl27 : Array (Option Value)}
    {f28 : Addr} {oc28 kV28 dc28 pm28 cd28 ct28 : Value} {od28 an28 : Option Addr} {sl28 : Array (Option Value)}
    {f29 : Addr} {oc29 kV29 dc29 pm29 cd29 ct29 : Value} {od29 an29 : Option Addr} {sl29 : Array (Option Value)}
    {f30 : Addr} {oc30 kV30 dc30 pm30 cd30 ct30 : Value} {od30 an30 : Option Addr} {sl30 : Array (Option Value)}
    {f31 : Addr} {oc31 kV31 dc31 pm31 cd31 ct31 : Value} {od31 an31 : Option Addr} {sl31 : Array (Option Value)}
    {f32 : Addr} {oc32 kV32 dc32 pm32 cd32 ct32 : Value} {od32 an32 : Option Addr} {sl32 : Array (Option Value)}
    {f33 : Addr} {oc33 kV33 dc33 pm33 cd33 ct33 : Value} {od33 an33 : Option Addr} {sl33 : Array (Option Value)}
    {f34 : Addr} {oc34 kV34 dc34 pm34 cd34 ct34 : Value} {od34 an34 : Option Addr} {sl34 : Array (Option Value)}
    {f35 : Addr} {oc35 kV35 dc35 pm35 cd35 ct35 : Value} {od35 an35 : Option Addr} {sl35 : Array (Option Value)}
    {f36 : Addr} {oc36 kV36 dc36 pm36 cd36 ct36 : Value} {od36 an36 : Option Addr} {sl36 : Array (Option Value)}
    {f37 : Addr} {oc37 kV37 dc37 pm37 cd37 ct37 : Value} {od37 an37 : Option Addr} {sl37 : Array (Option Value)}
    {f38 : Addr} {oc38 kV38 dc38 pm38 cd38 ct38 : Value} {od38 an38 : Option Addr} {sl38 : Array (Option Value)}
    {f39 : Addr} {oc39 kV39 dc39 pm39 cd39 ct39 : Value} {od39 an39 : Option Addr} {sl39 : Array (Option Value)}
    {f40 : Addr} {oc40 kV40 dc40 pm40 cd40 ct40 : Value} {od40 an40 : Option Addr} {sl40 : Array (Option Value)}
    {f41 : Addr} {oc41 kV41 dc41 pm41 cd41 ct41 : Value} {od41 an41 : Option Addr} {sl41 : Array (Option Value)}
    {f42 : Addr} {oc42 kV42 dc42 pm42 cd42 ct42 : Value} {od42 an42 : Option Addr} {sl42 : Array (Option Value)}
    {f43 : Addr} {oc43 kV43 dc43 pm43 cd43 ct43 : Value} {od43 an43 : Option Addr} {sl43 : Array (Option Value)}
    {f44 : Addr} {oc44 kV44 dc44 pm44 cd44 ct44 : Value} {od44 an44 : Option Addr} {sl44 : Array (Option Value)}
    {f45 : Addr} {oc45 kV45 dc45 pm45 cd45 ct45 : Value} {od45 an45 : Option Addr} {sl45 : Array (Option Value)}
    {f46 : Addr} {oc46 kV46 dc46 pm46 cd46 ct46 : Value} {od46 an46 : Option Addr} {sl46 : Array (Option Value)}
    {f47 : Addr} {oc47 kV47 dc47 pm47 cd47 ct47 : Value} {od47 an47 : Option Addr} {sl47 : Array (Option Value)}
    {f48 : Addr} {oc48 kV48 dc48 pm48 ct48 : Value} {od48 an48 : Option Addr} {sl48 : Array (Option Value)} {cL1 pL1 : Addr} {vc1 : Value} {vd1 : Option Addr} {vs1 : Array Value} {vl1 : Array (Option Value)}
    {f49 : Addr} {oc49 kV49 dc49 pm49 ct49 : Value} {od49 an49 : Option Addr} {sl49 : Array (Option Value)} {cL0 pL0 : Addr} {vc0 : Value} {vd0 : Option Addr} {vs0 : Array Value} {vl0 : Array (Option Value)}
    {fI : Addr} {ocI kVI dcI pmI cdI ctI : Value} {odI anI : Option Addr} {slI : Array (Option Value)}
    {C0 R0 N0 : Addr} {nm0 q0 : Str} {bs0 : List Value} {sn0 : List Str} {sub0 : List Value} {ab0 : Bool} {col0 : Option Bool} {dd0 : Option Addr} {m00 m10 m30 m50 : Option Value} {mt0 : Tok}
    {C1 R1 N1 : Addr} {nm1 q1 : Str} {bs1 : List Value} {sn1 : List Str} {sub1 : List Value} {ab1 : Bool} {col1 : Option Bool} {dd1 : Option Addr} {m01 m11 m31 m51 : Option Value} {mt1 : Tok}
    {C2 R2 N2 : Addr} {nm2 q2 : Str} {bs2 : List Value} {sn2 : List Str} {sub2 : List Value} {ab2 : Bool} {col2 : Option Bool} {dd2 : Option Addr} {m02 m12 m32 m52 : Option Value} {mt2 : Tok}
    {C3 R3 N3 : Addr} {nm3 q3 : Str} {bs3 : List Value} {sn3 : List Str} {sub3 : List Value} {ab3 : Bool} {col3 : Option Bool} {dd3 : Option Addr} {m03 m13 m33 m53 : Option Value} {mt3 : Tok}
    {CR : Addr}
    {t0 : Tok}
    {t1 : Tok}
    {t2 : Tok}
    {t3 : Tok}
    {t4 : Tok}
    {t5 : Tok}
    (a0 : PySem.W.nsIn K mainGlobals "whole" = some (some (.ref f0))) (l0 : K.lookup f0 = some ⟨oc0, od0, .func (PySem.W.fnOf "whole" "whole" (defArgs s_whole) (defBody s_whole) (defScope s_whole) .none kV0 dc0 pm0 an0 cd0 ct0), sl0⟩) (c0 : PySem.W.codeIn K cd0 "whole" = true) (k0 : PySem.W.keepIn K (.ref f0) = true)
    (a1 : PySem.W.nsIn K mainGlobals "whole_within" = some (some (.ref f1))) (l1 : K.lookup f1 = some ⟨oc1, od1, .func (PySem.W.fnOf "whole_within" "whole_within" (defArgs s_whole_within) (defBody s_whole_within) (defScope s_whole_within) .none kV1 dc1 pm1 an1 cd1 ct1), sl1⟩) (c1 : PySem.W.codeIn K cd1 "whole_within" = true) (k1 : PySem.W.keepIn K (.ref f1) = true)
    (a2 : PySem.W.nsIn K mainGlobals "tuple_within" = some (some (.ref f2))) (l2 : K.lookup f2 = some ⟨oc2, od2, .func (PySem.W.fnOf "tuple_within" "tuple_within" (defArgs s_tuple_within) (defBody s_tuple_within) (defScope s_tuple_within) .none kV2 dc2 pm2 an2 cd2 ct2), sl2⟩) (c2 : PySem.W.codeIn K cd2 "tuple_within" = true) (k2 : PySem.W.keepIn K (.ref f2) = true)
    (a3 : PySem.W.nsIn K mainGlobals "first_rows" = some (some (.ref f3))) (l3 : K.lookup f3 = some ⟨oc3, od3, .func (PySem.W.fnOf "first_rows" "first_rows" (defArgs s_first_rows) (defBody s_first_rows) (defScope s_first_rows) (.ref zT3) kV3 dc3 pm3 an3 cd3 ct3), sl3⟩) (c3 : PySem.W.codeIn K cd3 "first_rows" = true) (k3 : PySem.W.keepIn K (.ref f3) = true)
    (df3 : K.lookup zT3 = some ⟨zc3, zo3, .seq #[.int 0 zk3] zn3, zs3⟩)
    (a4 : PySem.W.nsIn K mainGlobals "by_meeting" = some (some (.ref f4))) (l4 : K.lookup f4 = some ⟨oc4, od4, .func (PySem.W.fnOf "by_meeting" "by_meeting" (defArgs s_by_meeting) (defBody s_by_meeting) (defScope s_by_meeting) .none kV4 dc4 pm4 an4 cd4 ct4), sl4⟩) (c4 : PySem.W.codeIn K cd4 "by_meeting" = true) (k4 : PySem.W.keepIn K (.ref f4) = true)
    (a5 : PySem.W.nsIn K mainGlobals "made_book" = some (some (.ref f5))) (l5 : K.lookup f5 = some ⟨oc5, od5, .func (PySem.W.fnOf "made_book" "made_book" (defArgs s_made_book) (defBody s_made_book) (defScope s_made_book) .none kV5 dc5 pm5 an5 cd5 ct5), sl5⟩) (c5 : PySem.W.codeIn K cd5 "made_book" = true) (k5 : PySem.W.keepIn K (.ref f5) = true)
    (a6 : PySem.W.nsIn K mainGlobals "check_form" = some (some (.ref f6))) (l6 : K.lookup f6 = some ⟨oc6, od6, .func (PySem.W.fnOf "check_form" "check_form" (defArgs s_check_form) (defBody s_check_form) (defScope s_check_form) .none kV6 dc6 pm6 an6 cd6 ct6), sl6⟩) (c6 : PySem.W.codeIn K cd6 "check_form" = true) (k6 : PySem.W.keepIn K (.ref f6) = true)
    (a7 : PySem.W.nsIn K mainGlobals "has_state_form" = some (some (.ref f7))) (l7 : K.lookup f7 = some ⟨oc7, od7, .func (PySem.W.fnOf "has_state_form" "has_state_form" (defArgs s_has_state_form) (defBody s_has_state_form) (defScope s_has_state_form) .none kV7 dc7 pm7 an7 cd7 ct7), sl7⟩) (c7 : PySem.W.codeIn K cd7 "has_state_form" = true) (k7 : PySem.W.keepIn K (.ref f7) = true)
    (a8 : PySem.W.nsIn K mainGlobals "states_along" = some (some (.ref f8))) (l8 : K.lookup f8 = some ⟨oc8, od8, .func (PySem.W.fnOf "states_along" "states_along" (defArgs s_states_along) (defBody s_states_along) (defScope s_states_along) .none kV8 dc8 pm8 an8 cd8 ct8), sl8⟩) (c8 : PySem.W.codeIn K cd8 "states_along" = true) (k8 : PySem.W.keepIn K (.ref f8) = true)
    (a9 : PySem.W.nsIn K mainGlobals "some_lot" = some (some (.ref f9))) (l9 : K.lookup f9 = some ⟨oc9, od9, .func (PySem.W.fnOf "some_lot" "some_lot" (defArgs s_some_lot) (defBody s_some_lot) (defScope s_some_lot) .none kV9 dc9 pm9 an9 cd9 ct9), sl9⟩) (c9 : PySem.W.codeIn K cd9 "some_lot" = true) (k9 : PySem.W.keepIn K (.ref f9) = true)
    (a10 : PySem.W.nsIn K mainGlobals "lot_on" = some (some (.ref f10))) (l10 : K.lookup f10 = some ⟨oc10, od10, .func (PySem.W.fnOf "lot_on" "lot_on" (defArgs s_lot_on) (defBody s_lot_on) (defScope s_lot_on) .none kV10 dc10 pm10 an10 cd10 ct10), sl10⟩) (c10 : PySem.W.codeIn K cd10 "lot_on" = true) (k10 : PySem.W.keepIn K (.ref f10) = true)
    (a11 : PySem.W.nsIn K mainGlobals "sum_of" = some (some (.ref f11))) (l11 : K.lookup f11 = some ⟨oc11, od11, .func (PySem.W.fnOf "sum_of" "sum_of" (defArgs s_sum_of) (defBody s_sum_of) (defScope s_sum_of) .none kV11 dc11 pm11 an11 cd11 ct11), sl11⟩) (c11 : PySem.W.codeIn K cd11 "sum_of" = true) (k11 : PySem.W.keepIn K (.ref f11) = true)
    (a12 : PySem.W.nsIn K mainGlobals "made_laying" = some (some (.ref f12))) (l12 : K.lookup f12 = some ⟨oc12, od12, .func (PySem.W.fnOf "made_laying" "made_laying" (defArgs s_made_laying) (defBody s_made_laying) (defScope s_made_laying) .none kV12 dc12 pm12 an12 cd12 ct12), sl12⟩) (c12 : PySem.W.codeIn K cd12 "made_laying" = true) (k12 : PySem.W.keepIn K (.ref f12) = true)
    (a13 : PySem.W.nsIn K mainGlobals "is_laying" = some (some (.ref f13))) (l13 : K.lookup f13 = some ⟨oc13, od13, .func (PySem.W.fnOf "is_laying" "is_laying" (defArgs s_is_laying) (defBody s_is_laying) (defScope s_is_laying) .none kV13 dc13 pm13 an13 cd13 ct13), sl13⟩) (c13 : PySem.W.codeIn K cd13 "is_laying" = true) (k13 : PySem.W.keepIn K (.ref f13) = true)
    (a14 : PySem.W.nsIn K mainGlobals "check_laying" = some (some (.ref f14))) (l14 : K.lookup f14 = some ⟨oc14, od14, .func (PySem.W.fnOf "check_laying" "check_laying" (defArgs s_check_laying) (defBody s_check_laying) (defScope s_check_laying) .none kV14 dc14 pm14 an14 cd14 ct14), sl14⟩) (c14 : PySem.W.codeIn K cd14 "check_laying" = true) (k14 : PySem.W.keepIn K (.ref f14) = true)
    (a15 : PySem.W.nsIn K mainGlobals "state_told" = some (some (.ref f15))) (l15 : K.lookup f15 = some ⟨oc15, od15, .func (PySem.W.fnOf "state_told" "state_told" (defArgs s_state_told) (defBody s_state_told) (defScope s_state_told) .none kV15 dc15 pm15 an15 cd15 ct15), sl15⟩) (c15 : PySem.W.codeIn K cd15 "state_told" = true) (k15 : PySem.W.keepIn K (.ref f15) = true)
    (a16 : PySem.W.nsIn K mainGlobals "fits_state" = some (some (.ref f16))) (l16 : K.lookup f16 = some ⟨oc16, od16, .func (PySem.W.fnOf "fits_state" "fits_state" (defArgs s_fits_state) (defBody s_fits_state) (defScope s_fits_state) .none kV16 dc16 pm16 an16 cd16 ct16), sl16⟩) (c16 : PySem.W.codeIn K cd16 "fits_state" = true) (k16 : PySem.W.keepIn K (.ref f16) = true)
    (a17 : PySem.W.nsIn K mainGlobals "moves_of" = some (some (.ref f17))) (l17 : K.lookup f17 = some ⟨oc17, od17, .func (PySem.W.fnOf "moves_of" "moves_of" (defArgs s_moves_of) (defBody s_moves_of) (defScope s_moves_of) .none kV17 dc17 pm17 an17 cd17 ct17), sl17⟩) (c17 : PySem.W.codeIn K cd17 "moves_of" = true) (k17 : PySem.W.keepIn K (.ref f17) = true)
    (a18 : PySem.W.nsIn K mainGlobals "lots_of" = some (some (.ref f18))) (l18 : K.lookup f18 = some ⟨oc18, od18, .func (PySem.W.fnOf "lots_of" "lots_of" (defArgs s_lots_of) (defBody s_lots_of) (defScope s_lots_of) .none kV18 dc18 pm18 an18 cd18 ct18), sl18⟩) (c18 : PySem.W.codeIn K cd18 "lots_of" = true) (k18 : PySem.W.keepIn K (.ref f18) = true)
    (a19 : PySem.W.nsIn K mainGlobals "place_at" = some (some (.ref f19))) (l19 : K.lookup f19 = some ⟨oc19, od19, .func (PySem.W.fnOf "place_at" "place_at" (defArgs s_place_at) (defBody s_place_at) (defScope s_place_at) .none kV19 dc19 pm19 an19 cd19 ct19), sl19⟩) (c19 : PySem.W.codeIn K cd19 "place_at" = true) (k19 : PySem.W.keepIn K (.ref f19) = true)
    (a20 : PySem.W.nsIn K mainGlobals "places_along" = some (some (.ref f20))) (l20 : K.lookup f20 = some ⟨oc20, od20, .func (PySem.W.fnOf "places_along" "places_along" (defArgs s_places_along) (defBody s_places_along) (defScope s_places_along) .none kV20 dc20 pm20 an20 cd20 ct20), sl20⟩) (c20 : PySem.W.codeIn K cd20 "places_along" = true) (k20 : PySem.W.keepIn K (.ref f20) = true)
    (a21 : PySem.W.nsIn K mainGlobals "lot_of" = some (some (.ref f21))) (l21 : K.lookup f21 = some ⟨oc21, od21, .func (PySem.W.fnOf "lot_of" "lot_of" (defArgs s_lot_of) (defBody s_lot_of) (defScope s_lot_of) .none kV21 dc21 pm21 an21 cd21 ct21), sl21⟩) (c21 : PySem.W.codeIn K cd21 "lot_of" = true) (k21 : PySem.W.keepIn K (.ref f21) = true)
    (a22 : PySem.W.nsIn K mainGlobals "lots_along" = some (some (.ref f22))) (l22 : K.lookup f22 = some ⟨oc22, od22, .func (PySem.W.fnOf "lots_along" "lots_along" (defArgs s_lots_along) (defBody s_lots_along) (defScope s_lots_along) .none kV22 dc22 pm22 an22 cd22 ct22), sl22⟩) (c22 : PySem.W.codeIn K cd22 "lots_along" = true) (k22 : PySem.W.keepIn K (.ref f22) = true)
    (a23 : PySem.W.nsIn K mainGlobals "total_of" = some (some (.ref f23))) (l23 : K.lookup f23 = some ⟨oc23, od23, .func (PySem.W.fnOf "total_of" "total_of" (defArgs s_total_of) (defBody s_total_of) (defScope s_total_of) .none kV23 dc23 pm23 an23 cd23 ct23), sl23⟩) (c23 : PySem.W.codeIn K cd23 "total_of" = true) (k23 : PySem.W.keepIn K (.ref f23) = true)
    (a24 : PySem.W.nsIn K mainGlobals "met" = some (some (.ref f24))) (l24 : K.lookup f24 = some ⟨oc24, od24, .func (PySem.W.fnOf "met" "met" (defArgs s_met) (defBody s_met) (defScope s_met) .none kV24 dc24 pm24 an24 cd24 ct24), sl24⟩) (c24 : PySem.W.codeIn K cd24 "met" = true) (k24 : PySem.W.keepIn K (.ref f24) = true)
    (a25 : PySem.W.nsIn K mainGlobals "seen" = some (some (.ref f25))) (l25 : K.lookup f25 = some ⟨oc25, od25, .func (PySem.W.fnOf "seen" "seen" (defArgs s_seen) (defBody s_seen) (defScope s_seen) .none kV25 dc25 pm25 an25 cd25 ct25), sl25⟩) (c25 : PySem.W.codeIn K cd25 "seen" = true) (k25 : PySem.W.keepIn K (.ref f25) = true)
    (a26 : PySem.W.nsIn K mainGlobals "seen_part" = some (some (.ref f26))) (l26 : K.lookup f26 = some ⟨oc26, od26, .func (PySem.W.fnOf "seen_part" "seen_part" (defArgs s_seen_part) (defBody s_seen_part) (defScope s_seen_part) .none kV26 dc26 pm26 an26 cd26 ct26), sl26⟩) (c26 : PySem.W.codeIn K cd26 "seen_part" = true) (k26 : PySem.W.keepIn K (.ref f26) = true)
    (a27 : PySem.W.nsIn K mainGlobals "nought" = some (some (.ref f27))) (l27 : K.lookup f27 = some ⟨oc27, od27, .func (PySem.W.fnOf "nought" "nought" (defArgs s_nought) (defBody s_nought) (defScope s_nought) .none kV27 dc27 pm27 an27 cd27 ct27), sl27⟩) (c27 : PySem.W.codeIn K cd27 "nought" = true) (k27 : PySem.W.keepIn K (.ref f27) = true)
    (a28 : PySem.W.nsIn K mainGlobals "first_nought" = some (some (.ref f28))) (l28 : K.lookup f28 = some ⟨oc28, od28, .func (PySem.W.fnOf "first_nought" "first_nought" (defArgs s_first_nought) (defBody s_first_nought) (defScope s_first_nought) .none kV28 dc28 pm28 an28 cd28 ct28), sl28⟩) (c28 : PySem.W.codeIn K cd28 "first_nought" = true) (k28 : PySem.W.keepIn K (.ref f28) = true)
    (a29 : PySem.W.nsIn K mainGlobals "_law_pool" = some (some (.ref f29))) (l29 : K.lookup f29 = some ⟨oc29, od29, .func (PySem.W.fnOf "_law_pool" "_law_pool" (defArgs s_law_pool) (defBody s_law_pool) (defScope s_law_pool) .none kV29 dc29 pm29 an29 cd29 ct29), sl29⟩) (c29 : PySem.W.codeIn K cd29 "_law_pool" = true) (k29 : PySem.W.keepIn K (.ref f29) = true)
    (a30 : PySem.W.nsIn K mainGlobals "_law_draw" = some (some (.ref f30))) (l30 : K.lookup f30 = some ⟨oc30, od30, .func (PySem.W.fnOf "_law_draw" "_law_draw" (defArgs s_law_draw) (defBody s_law_draw) (defScope s_law_draw) .none kV30 dc30 pm30 an30 cd30 ct30), sl30⟩) (c30 : PySem.W.codeIn K cd30 "_law_draw" = true) (k30 : PySem.W.keepIn K (.ref f30) = true)
    (a31 : PySem.W.nsIn K mainGlobals "_law_pick" = some (some (.ref f31))) (l31 : K.lookup f31 = some ⟨oc31, od31, .func (PySem.W.fnOf "_law_pick" "_law_pick" (defArgs s_law_pick) (defBody s_law_pick) (defScope s_law_pick) .none kV31 dc31 pm31 an31 cd31 ct31), sl31⟩) (c31 : PySem.W.codeIn K cd31 "_law_pick" = true) (k31 : PySem.W.keepIn K (.ref f31) = true)
    (a32 : PySem.W.nsIn K mainGlobals "_law_turned" = some (some (.ref f32))) (l32 : K.lookup f32 = some ⟨oc32, od32, .func (PySem.W.fnOf "_law_turned" "_law_turned" (defArgs s_law_turned) (defBody s_law_turned) (defScope s_law_turned) .none kV32 dc32 pm32 an32 cd32 ct32), sl32⟩) (c32 : PySem.W.codeIn K cd32 "_law_turned" = true) (k32 : PySem.W.keepIn K (.ref f32) = true)
    (a33 : PySem.W.nsIn K mainGlobals "_law_book_meeting" = some (some (.ref f33))) (l33 : K.lookup f33 = some ⟨oc33, od33, .func (PySem.W.fnOf "_law_book_meeting" "_law_book_meeting" (defArgs s_law_book_meeting) (defBody s_law_book_meeting) (defScope s_law_book_meeting) .none kV33 dc33 pm33 an33 cd33 ct33), sl33⟩) (c33 : PySem.W.codeIn K cd33 "_law_book_meeting" = true) (k33 : PySem.W.keepIn K (.ref f33) = true)
    (a34 : PySem.W.nsIn K mainGlobals "_law_book_messages" = some (some (.ref f34))) (l34 : K.lookup f34 = some ⟨oc34, od34, .func (PySem.W.fnOf "_law_book_messages" "_law_book_messages" (defArgs s_law_book_messages) (defBody s_law_book_messages) (defScope s_law_book_messages) .none kV34 dc34 pm34 an34 cd34 ct34), sl34⟩) (c34 : PySem.W.codeIn K cd34 "_law_book_messages" = true) (k34 : PySem.W.keepIn K (.ref f34) = true)
    (a35 : PySem.W.nsIn K mainGlobals "_law_book_drawn" = some (some (.ref f35))) (l35 : K.lookup f35 = some ⟨oc35, od35, .func (PySem.W.fnOf "_law_book_drawn" "_law_book_drawn" (defArgs s_law_book_drawn) (defBody s_law_book_drawn) (defScope s_law_book_drawn) .none kV35 dc35 pm35 an35 cd35 ct35), sl35⟩) (c35 : PySem.W.codeIn K cd35 "_law_book_drawn" = true) (k35 : PySem.W.keepIn K (.ref f35) = true)
    (a36 : PySem.W.nsIn K mainGlobals "_law_book_row" = some (some (.ref f36))) (l36 : K.lookup f36 = some ⟨oc36, od36, .func (PySem.W.fnOf "_law_book_row" "_law_book_row" (defArgs s_law_book_row) (defBody s_law_book_row) (defScope s_law_book_row) .none kV36 dc36 pm36 an36 cd36 ct36), sl36⟩) (c36 : PySem.W.codeIn K cd36 "_law_book_row" = true) (k36 : PySem.W.keepIn K (.ref f36) = true)
    (a37 : PySem.W.nsIn K mainGlobals "_law_lay_lot" = some (some (.ref f37))) (l37 : K.lookup f37 = some ⟨oc37, od37, .func (PySem.W.fnOf "_law_lay_lot" "_law_lay_lot" (defArgs s_law_lay_lot) (defBody s_law_lay_lot) (defScope s_law_lay_lot) .none kV37 dc37 pm37 an37 cd37 ct37), sl37⟩) (c37 : PySem.W.codeIn K cd37 "_law_lay_lot" = true) (k37 : PySem.W.keepIn K (.ref f37) = true)
    (a38 : PySem.W.nsIn K mainGlobals "_law_lay_full" = some (some (.ref f38))) (l38 : K.lookup f38 = some ⟨oc38, od38, .func (PySem.W.fnOf "_law_lay_full" "_law_lay_full" (defArgs s_law_lay_full) (defBody s_law_lay_full) (defScope s_law_lay_full) .none kV38 dc38 pm38 an38 cd38 ct38), sl38⟩) (c38 : PySem.W.codeIn K cd38 "_law_lay_full" = true) (k38 : PySem.W.keepIn K (.ref f38) = true)
    (a39 : PySem.W.nsIn K mainGlobals "_law_lay_drawn" = some (some (.ref f39))) (l39 : K.lookup f39 = some ⟨oc39, od39, .func (PySem.W.fnOf "_law_lay_drawn" "_law_lay_drawn" (defArgs s_law_lay_drawn) (defBody s_law_lay_drawn) (defScope s_law_lay_drawn) .none kV39 dc39 pm39 an39 cd39 ct39), sl39⟩) (c39 : PySem.W.codeIn K cd39 "_law_lay_drawn" = true) (k39 : PySem.W.keepIn K (.ref f39) = true)
    (a40 : PySem.W.nsIn K mainGlobals "_law_lay_step" = some (some (.ref f40))) (l40 : K.lookup f40 = some ⟨oc40, od40, .func (PySem.W.fnOf "_law_lay_step" "_law_lay_step" (defArgs s_law_lay_step) (defBody s_law_lay_step) (defScope s_law_lay_step) .none kV40 dc40 pm40 an40 cd40 ct40), sl40⟩) (c40 : PySem.W.codeIn K cd40 "_law_lay_step" = true) (k40 : PySem.W.keepIn K (.ref f40) = true)
    (a41 : PySem.W.nsIn K mainGlobals "_law_lay_sum" = some (some (.ref f41))) (l41 : K.lookup f41 = some ⟨oc41, od41, .func (PySem.W.fnOf "_law_lay_sum" "_law_lay_sum" (defArgs s_law_lay_sum) (defBody s_law_lay_sum) (defScope s_law_lay_sum) .none kV41 dc41 pm41 an41 cd41 ct41), sl41⟩) (c41 : PySem.W.codeIn K cd41 "_law_lay_sum" = true) (k41 : PySem.W.keepIn K (.ref f41) = true)
    (a42 : PySem.W.nsIn K mainGlobals "_law_lay_walk" = some (some (.ref f42))) (l42 : K.lookup f42 = some ⟨oc42, od42, .func (PySem.W.fnOf "_law_lay_walk" "_law_lay_walk" (defArgs s_law_lay_walk) (defBody s_law_lay_walk) (defScope s_law_lay_walk) .none kV42 dc42 pm42 an42 cd42 ct42), sl42⟩) (c42 : PySem.W.codeIn K cd42 "_law_lay_walk" = true) (k42 : PySem.W.keepIn K (.ref f42) = true)
    (a43 : PySem.W.nsIn K mainGlobals "_law_heard" = some (some (.ref f43))) (l43 : K.lookup f43 = some ⟨oc43, od43, .func (PySem.W.fnOf "_law_heard" "_law_heard" (defArgs s_law_heard) (defBody s_law_heard) (defScope s_law_heard) .none kV43 dc43 pm43 an43 cd43 ct43), sl43⟩) (c43 : PySem.W.codeIn K cd43 "_law_heard" = true) (k43 : PySem.W.keepIn K (.ref f43) = true)
    (a44 : PySem.W.nsIn K mainGlobals "_law_with_noughts" = some (some (.ref f44))) (l44 : K.lookup f44 = some ⟨oc44, od44, .func (PySem.W.fnOf "_law_with_noughts" "_law_with_noughts" (defArgs s_law_with_noughts) (defBody s_law_with_noughts) (defScope s_law_with_noughts) .none kV44 dc44 pm44 an44 cd44 ct44), sl44⟩) (c44 : PySem.W.codeIn K cd44 "_law_with_noughts" = true) (k44 : PySem.W.keepIn K (.ref f44) = true)
    (a45 : PySem.W.nsIn K mainGlobals "_law_met" = some (some (.ref f45))) (l45 : K.lookup f45 = some ⟨oc45, od45, .func (PySem.W.fnOf "_law_met" "_law_met" (defArgs s_law_met) (defBody s_law_met) (defScope s_law_met) .none kV45 dc45 pm45 an45 cd45 ct45), sl45⟩) (c45 : PySem.W.codeIn K cd45 "_law_met" = true) (k45 : PySem.W.keepIn K (.ref f45) = true)
    (a46 : PySem.W.nsIn K mainGlobals "_law_nought" = some (some (.ref f46))) (l46 : K.lookup f46 = some ⟨oc46, od46, .func (PySem.W.fnOf "_law_nought" "_law_nought" (defArgs s_law_nought) (defBody s_law_nought) (defScope s_law_nought) .none kV46 dc46 pm46 an46 cd46 ct46), sl46⟩) (c46 : PySem.W.codeIn K cd46 "_law_nought" = true) (k46 : PySem.W.keepIn K (.ref f46) = true)
    (a47 : PySem.W.nsIn K mainGlobals "_law_seen_right" = some (some (.ref f47))) (l47 : K.lookup f47 = some ⟨oc47, od47, .func (PySem.W.fnOf "_law_seen_right" "_law_seen_right" (defArgs s_law_seen_right) (defBody s_law_seen_right) (defScope s_law_seen_right) .none kV47 dc47 pm47 an47 cd47 ct47), sl47⟩) (c47 : PySem.W.codeIn K cd47 "_law_seen_right" = true) (k47 : PySem.W.keepIn K (.ref f47) = true)
    (a48 : PySem.W.nsIn K mainGlobals "_law_long_right" = some (some (.ref f48))) (l48 : K.lookup f48 = some ⟨oc48, od48, .func (PySem.W.fnOf "_law_long_right" "_law_long_right" (defArgs s_law_long_right) (defBody s_law_long_right) (defScope s_law_long_right) .none kV48 dc48 pm48 an48 (.ref cL1) ct48), sl48⟩) (c48 : PySem.W.codeIn K (.ref cL1) "_law_long_right" = true) (k48 : PySem.W.keepIn K (.ref f48) = true)
    (tbO1 : K.lookup cL1 = some ⟨vc1, vd1, .fields vs1, vl1⟩) (tbV1 : vs1[11]? = some (.ref pL1))
    (tbC1 : PySem.W.codeHdIn K cL1 pL1 = true) (tbN1 : K.lookup pL1 = none)
    (a49 : PySem.W.nsIn K mainGlobals "law" = some (some (.ref f49))) (l49 : K.lookup f49 = some ⟨oc49, od49, .func (PySem.W.fnOf "law" "law" (defArgs s_law) (defBody s_law) (defScope s_law) .none kV49 dc49 pm49 an49 (.ref cL0) ct49), sl49⟩) (c49 : PySem.W.codeIn K (.ref cL0) "law" = true) (k49 : PySem.W.keepIn K (.ref f49) = true)
    (tbO0 : K.lookup cL0 = some ⟨vc0, vd0, .fields vs0, vl0⟩) (tbV0 : vs0[11]? = some (.ref pL0))
    (tbC0 : PySem.W.codeHdIn K cL0 pL0 = true) (tbN0 : K.lookup pL0 = none)
    (lI : K.lookup fI = some ⟨ocI, odI, .func (PySem.W.fnOf "__init__" "Refused.__init__" (defArgs s_init) (defBody s_init) (defScope s_init) .none kVI dcI pmI anI cdI ctI), slI⟩) (cI : PySem.W.codeIn K cdI "Refused.__init__" = true) (kI : PySem.W.keepIn K (.ref fI) = true) (tI : PySem.W.typeIn K (.ref fI) = some (.type "function"))
    (xg0 : PySem.W.nsIn K mainGlobals "BadBook" = some (some (.ref C0))) (xl0 : K.lookup C0 = some (excClassObj nm0 q0 C0 N0 bs0 [.ref R0, .type "ValueError", .type "Exception", .type "BaseException", .type "object"] true sn0 sub0 ab0 col0 dd0 m00 m10 (some (.str "BadBook" mt0)) m30 m50 "ValueError.__new__"))
    (xs0 : PySem.W.findIn K (.ref C0) "__setattr__" = some (some (.builtin "object.__setattr__"))) (xe0 : PySem.W.subIn K (.ref C0) (.type "BaseException") = some true) (xt0 : PySem.W.typeIn K (.ref C0) = some (.type "type")) (xk0 : PySem.W.keepIn K (.ref C0) = true)
    (xi0 : PySem.W.findIn K (.ref C0) "__init__" = some (some (.ref fI))) (xa0 : PySem.W.findIn K (.ref C0) "__getattribute__" = some (some (.builtin "BaseException.__getattribute__"))) (xb0 : PySem.W.findIn K (.ref C0) "__getattr__" = some none) (xw0 : PySem.W.findIn K (.ref C0) "what" = some none) (xh0 : PySem.W.hasDictIn K C0 = true) (xc0 : PySem.W.isClsIn K C0 = true)
    (xm0 : PySem.W.mroIn K C0 (.type "object") = some true) (xr0 : PySem.W.readsIn K C0 (.type "type") = true) (xf0 : PySem.W.findCls K (.ref C0) (.type "type") "__name__" = some (.get (.builtin "getset_descriptor.__get__") (.builtin "type.__name__") (.ref C0) (.type "type"))) (xn0 : PySem.W.findIn K (.ref C0) "kind" = some none) (xo0 : PySem.W.findIn K (.ref C0) "__class__" = some (some (.builtin "object.__class__")))
    (xg1 : PySem.W.nsIn K mainGlobals "Stray" = some (some (.ref C1))) (xl1 : K.lookup C1 = some (excClassObj nm1 q1 C1 N1 bs1 [.ref R1, .type "ValueError", .type "Exception", .type "BaseException", .type "object"] true sn1 sub1 ab1 col1 dd1 m01 m11 (some (.str "Stray" mt1)) m31 m51 "ValueError.__new__"))
    (xs1 : PySem.W.findIn K (.ref C1) "__setattr__" = some (some (.builtin "object.__setattr__"))) (xe1 : PySem.W.subIn K (.ref C1) (.type "BaseException") = some true) (xt1 : PySem.W.typeIn K (.ref C1) = some (.type "type")) (xk1 : PySem.W.keepIn K (.ref C1) = true)
    (xi1 : PySem.W.findIn K (.ref C1) "__init__" = some (some (.ref fI))) (xa1 : PySem.W.findIn K (.ref C1) "__getattribute__" = some (some (.builtin "BaseException.__getattribute__"))) (xb1 : PySem.W.findIn K (.ref C1) "__getattr__" = some none) (xw1 : PySem.W.findIn K (.ref C1) "what" = some none) (xh1 : PySem.W.hasDictIn K C1 = true) (xc1 : PySem.W.isClsIn K C1 = true)
    (xm1 : PySem.W.mroIn K C1 (.type "object") = some true) (xr1 : PySem.W.readsIn K C1 (.type "type") = true) (xf1 : PySem.W.findCls K (.ref C1) (.type "type") "__name__" = some (.get (.builtin "getset_descriptor.__get__") (.builtin "type.__name__") (.ref C1) (.type "type"))) (xn1 : PySem.W.findIn K (.ref C1) "kind" = some none) (xo1 : PySem.W.findIn K (.ref C1) "__class__" = some (some (.builtin "object.__class__")))
    (xg2 : PySem.W.nsIn K mainGlobals "BadRow" = some (some (.ref C2))) (xl2 : K.lookup C2 = some (excClassObj nm2 q2 C2 N2 bs2 [.ref R2, .type "ValueError", .type "Exception", .type "BaseException", .type "object"] true sn2 sub2 ab2 col2 dd2 m02 m12 (some (.str "BadRow" mt2)) m32 m52 "ValueError.__new__"))
    (xs2 : PySem.W.findIn K (.ref C2) "__setattr__" = some (some (.builtin "object.__setattr__"))) (xe2 : PySem.W.subIn K (.ref C2) (.type "BaseException") = some true) (xt2 : PySem.W.typeIn K (.ref C2) = some (.type "type")) (xk2 : PySem.W.keepIn K (.ref C2) = true)
    (xi2 : PySem.W.findIn K (.ref C2) "__init__" = some (some (.ref fI))) (xa2 : PySem.W.findIn K (.ref C2) "__getattribute__" = some (some (.builtin "BaseException.__getattribute__"))) (xb2 : PySem.W.findIn K (.ref C2) "__getattr__" = some none) (xw2 : PySem.W.findIn K (.ref C2) "what" = some none) (xh2 : PySem.W.hasDictIn K C2 = true) (xc2 : PySem.W.isClsIn K C2 = true)
    (xm2 : PySem.W.mroIn K C2 (.type "object") = some true) (xr2 : PySem.W.readsIn K C2 (.type "type") = true) (xf2 : PySem.W.findCls K (.ref C2) (.type "type") "__name__" = some (.get (.builtin "getset_descriptor.__get__") (.builtin "type.__name__") (.ref C2) (.type "type"))) (xn2 : PySem.W.findIn K (.ref C2) "kind" = some none) (xo2 : PySem.W.findIn K (.ref C2) "__class__" = some (some (.builtin "object.__class__")))
    (xg3 : PySem.W.nsIn K mainGlobals "BadLaying" = some (some (.ref C3))) (xl3 : K.lookup C3 = some (excClassObj nm3 q3 C3 N3 bs3 [.ref R3, .type "ValueError", .type "Exception", .type "BaseException", .type "object"] true sn3 sub3 ab3 col3 dd3 m03 m13 (some (.str "BadLaying" mt3)) m33 m53 "ValueError.__new__"))
    (xs3 : PySem.W.findIn K (.ref C3) "__setattr__" = some (some (.builtin "object.__setattr__"))) (xe3 : PySem.W.subIn K (.ref C3) (.type "BaseException") = some true) (xt3 : PySem.W.typeIn K (.ref C3) = some (.type "type")) (xk3 : PySem.W.keepIn K (.ref C3) = true)
    (xi3 : PySem.W.findIn K (.ref C3) "__init__" = some (some (.ref fI))) (xa3 : PySem.W.findIn K (.ref C3) "__getattribute__" = some (some (.builtin "BaseException.__getattribute__"))) (xb3 : PySem.W.findIn K (.ref C3) "__getattr__" = some none) (xw3 : PySem.W.findIn K (.ref C3) "what" = some none) (xh3 : PySem.W.hasDictIn K C3 = true) (xc3 : PySem.W.isClsIn K C3 = true)
    (xm3 : PySem.W.mroIn K C3 (.type "object") = some true) (xr3 : PySem.W.readsIn K C3 (.type "type") = true) (xf3 : PySem.W.findCls K (.ref C3) (.type "type") "__name__" = some (.get (.builtin "getset_descriptor.__get__") (.builtin "type.__name__") (.ref C3) (.type "type"))) (xn3 : PySem.W.findIn K (.ref C3) "kind" = some none) (xo3 : PySem.W.findIn K (.ref C3) "__class__" = some (some (.builtin "object.__class__")))
    (zcn : PySem.W.specialIn K (.builtin "object.__class__") "__get__" = some (some (.builtin "getset_descriptor.__get__"))) (zct : PySem.W.takesIn K (.builtin "object.__class__") = some true)
    (ps_BadBook_BadRow : PySem.W.subIn K (.ref C0) (.ref C2) = some false)
    (ps_Stray_BadRow : PySem.W.subIn K (.ref C1) (.ref C2) = some false)
    (ps_BadRow_BadRow : PySem.W.subIn K (.ref C2) (.ref C2) = some true)
    (ps_BadLaying_BadRow : PySem.W.subIn K (.ref C3) (.ref C2) = some false)
    (rg : PySem.W.nsIn K mainGlobals "Refused" = some (some (.ref CR))) (rc : PySem.W.isClsIn K CR = true) (rt : PySem.W.typeIn K (.ref CR) = some (.type "type")) (rb : PySem.W.subIn K (.ref CR) (.type "BaseException") = some true)
    (rq0 : PySem.W.subIn K (.ref C0) (.ref CR) = some true) (rv0 : PySem.W.subIn K (.ref C0) (.type "ValueError") = some true)
    (rq1 : PySem.W.subIn K (.ref C1) (.ref CR) = some true) (rv1 : PySem.W.subIn K (.ref C1) (.type "ValueError") = some true)
    (rq2 : PySem.W.subIn K (.ref C2) (.ref CR) = some true) (rv2 : PySem.W.subIn K (.ref C2) (.type "ValueError") = some true)
    (rq3 : PySem.W.subIn K (.ref C3) (.ref CR) = some true) (rv3 : PySem.W.subIn K (.ref C3) (.type "ValueError") = some true)
    (z0 : PySem.W.nsIn K mainGlobals "isinstance" = some none)
    (z1 : PySem.W.nsIn K mainGlobals "int" = some none)
    (z2 : PySem.W.nsIn K mainGlobals "bool" = some none)
    (z3 : PySem.W.nsIn K mainGlobals "tuple" = some none)
    (z4 : PySem.W.nsIn K mainGlobals "len" = some none)
    (z5 : PySem.W.nsIn K mainGlobals "list" = some none)
    (z6 : PySem.W.nsIn K mainGlobals "enumerate" = some none)
    (z7 : PySem.W.nsIn K mainGlobals "range" = some none)
    (z8 : PySem.W.nsIn K mainGlobals "dict" = some none)
    (z9 : PySem.W.nsIn K mainGlobals "all" = some none)
    (z10 : PySem.W.nsIn K mainGlobals "zip" = some none)
    (z11 : PySem.W.nsIn K mainGlobals "any" = some none)
    (z12 : PySem.W.nsIn K mainGlobals "sorted" = some none)
    (z13 : PySem.W.nsIn K mainGlobals "min" = some none)
    (z14 : PySem.W.nsIn K mainGlobals "sum" = some none)
    (z15 : PySem.W.nsIn K mainGlobals "max" = some none)
    (z16 : PySem.W.nsIn K mainGlobals "ValueError" = some none)
    (z17 : PySem.W.nsIn K mainGlobals "repr" = some none)
    (y0 : PySem.W.nsIn K mainGlobals "MOST_STATES" = some (some (.int 8 t0)))
    (y1 : PySem.W.nsIn K mainGlobals "MOST_MESSAGES" = some (some (.int 5 t1)))
    (y2 : PySem.W.nsIn K mainGlobals "GREATEST_MESSAGE" = some (some (.int 99 t2)))
    (y3 : PySem.W.nsIn K mainGlobals "LONGEST_ROW" = some (some (.int 20000 t3)))
    (y4 : PySem.W.nsIn K mainGlobals "MOST_WIRES" = some (some (.int 6 t4)))
    (y5 : PySem.W.nsIn K mainGlobals "MOST_PLACES" = some (some (.int 2000 t5)))
    (tbD0_1 : (pL0 == pL1) = false)
    : (∀ p ∈ [(cL0, pL0), (cL1, pL1)], K.lookup p.2 = none ∧ PySem.W.codeHdIn K p.1 p.2 = true) ∧ ∃ fd : FuncData, (∀ (s : Shared) (v : Value), BindsTo s fd ⟨[v], []⟩ [("script", v)]) ∧ ∀ base : Heap, K.In base → base.Ns mainGlobals mg → (∀ p ∈ [(cL0, pL0), (cL1, pL1)], LamX.TabB base mg p.1 p.2) → FnG l.prog w K mg base CX0 12 fa fd ["script"] (spLaw K [(cL0, pL0), (cL1, pL1)]) := by
  have T : Tx K mg := {
    whole := mkDef X G a0 l0 c0 k0 fun _ _ _ _ _ _ us hl => match us, hl with | [_], _ => rfl
    whole_within := mkDef X G a1 l1 c1 k1 fun _ _ _ _ _ _ us hl => match us, hl with | [_, _, _], _ => rfl
    tuple_within := mkDef X G a2 l2 c2 k2 fun _ _ _ _ _ _ us hl => match us, hl with | [_, _, _], _ => rfl
    first_rows := mkDefD ⟨zk3, rfl⟩ X G a3 l3 c3 k3 df3 1 rfl (fun _ _ _ _ _ _ _ us its h1 h2 => match us, its, h1, h2 with | [_], [_], _, _ => ⟨_, rfl, rfl⟩) (fun _ _ _ _ _ _ _ us its h1 h2 => match us, its, h1, h2 with | [_, _], [_], _, _ => ⟨_, rfl, rfl⟩)
    by_meeting := mkDef X G a4 l4 c4 k4 fun _ _ _ _ _ _ us hl => match us, hl with | [_], _ => rfl
    made_book := mkDef X G a5 l5 c5 k5 fun _ _ _ _ _ _ us hl => match us, hl with | [_], _ => rfl
    check_form := mkDef X G a6 l6 c6 k6 fun _ _ _ _ _ _ us hl => match us, hl with | [_], _ => rfl
    has_state_form := mkDef X G a7 l7 c7 k7 fun _ _ _ _ _ _ us hl => match us, hl with | [_, _], _ => rfl
    states_along := mkDef X G a8 l8 c8 k8 fun _ _ _ _ _ _ us hl => match us, hl with | [_, _], _ => rfl
    some_lot := mkDef X G a9 l9 c9 k9 fun _ _ _ _ _ _ us hl => match us, hl with | [_], _ => rfl
    lot_on := mkDef X G a10 l10 c10 k10 fun _ _ _ _ _ _ us hl => match us, hl with | [_, _], _ => rfl
    sum_of := mkDef X G a11 l11 c11 k11 fun _ _ _ _ _ _ us hl => match us, hl with | [_, _], _ => rfl
    made_laying := mkDef X G a12 l12 c12 k12 fun _ _ _ _ _ _ us hl => match us, hl with | [_, _], _ => rfl
    is_laying := mkDef X G a13 l13 c13 k13 fun _ _ _ _ _ _ us hl => match us, hl with | [_, _], _ => rfl
    check_laying := mkDef X G a14 l14 c14 k14 fun _ _ _ _ _ _ us hl => match us, hl with | [_, _], _ => rfl
    state_told := mkDef X G a15 l15 c15 k15 fun _ _ _ _ _ _ us hl => match us, hl with | [_], _ => rfl
    fits_state := mkDef X G a16 l16 c16 k16 fun _ _ _ _ _ _ us hl => match us, hl with | [_, _, _, _], _ => rfl
    moves_of := mkDef X G a17 l17 c17 k17 fun _ _ _ _ _ _ us hl => match us, hl with | [_, _], _ => rfl
    lots_of := mkDef X G a18 l18 c18 k18 fun _ _ _ _ _ _ us hl => match us, hl with | [_, _], _ => rfl
    place_at := mkDef X G a19 l19 c19 k19 fun _ _ _ _ _ _ us hl => match us, hl with | [_, _, _], _ => rfl
    places_along := mkDef X G a20 l20 c20 k20 fun _ _ _ _ _ _ us hl => match us, hl with | [_, _, _], _ => rfl
    lot_of := mkDef X G a21 l21 c21 k21 fun _ _ _ _ _ _ us hl => match us, hl with | [_, _, _], _ => rfl
    lots_along := mkDef X G a22 l22 c22 k22 fun _ _ _ _ _ _ us hl => match us, hl with | [_, _, _], _ => rfl
    total_of := mkDef X G a23 l23 c23 k23 fun _ _ _ _ _ _ us hl => match us, hl with | [_, _], _ => rfl
    met := mkDef X G a24 l24 c24 k24 fun _ _ _ _ _ _ us hl => match us, hl with | [_, _], _ => rfl
    seen := mkDef X G a25 l25 c25 k25 fun _ _ _ _ _ _ us hl => match us, hl with | [_, _], _ => rfl
    seen_part := mkDef X G a26 l26 c26 k26 fun _ _ _ _ _ _ us hl => match us, hl with | [_, _], _ => rfl
    nought := mkDef X G a27 l27 c27 k27 fun _ _ _ _ _ _ us hl => match us, hl with | [_, _], _ => rfl
    first_nought := mkDef X G a28 l28 c28 k28 fun _ _ _ _ _ _ us hl => match us, hl with | [_, _], _ => rfl
    law_pool := mkDef X G a29 l29 c29 k29 fun _ _ _ _ _ _ us hl => match us, hl with | [_], _ => rfl
    law_draw := mkDef X G a30 l30 c30 k30 fun _ _ _ _ _ _ us hl => match us, hl with | [_, _], _ => rfl
    law_pick := mkDef X G a31 l31 c31 k31 fun _ _ _ _ _ _ us hl => match us, hl with | [_, _], _ => rfl
    law_turned := mkDef X G a32 l32 c32 k32 fun _ _ _ _ _ _ us hl => match us, hl with | [_, _], _ => rfl
    law_book_meeting := mkDef X G a33 l33 c33 k33 fun _ _ _ _ _ _ us hl => match us, hl with | [_], _ => rfl
    law_book_messages := mkDef X G a34 l34 c34 k34 fun _ _ _ _ _ _ us hl => match us, hl with | [_, _], _ => rfl
    law_book_drawn := mkDef X G a35 l35 c35 k35 fun _ _ _ _ _ _ us hl => match us, hl with | [_, _, _], _ => rfl
    law_book_row := mkDef X G a36 l36 c36 k36 fun _ _ _ _ _ _ us hl => match us, hl with | [_, _, _], _ => rfl
    law_lay_lot := mkDef X G a37 l37 c37 k37 fun _ _ _ _ _ _ us hl => match us, hl with | [_, _, _], _ => rfl
    law_lay_full := mkDef X G a38 l38 c38 k38 fun _ _ _ _ _ _ us hl => match us, hl with | [_, _, _], _ => rfl
    law_lay_drawn := mkDef X G a39 l39 c39 k39 fun _ _ _ _ _ _ us hl => match us, hl with | [_, _, _, _, _], _ => rfl
    law_lay_step := mkDef X G a40 l40 c40 k40 fun _ _ _ _ _ _ us hl => match us, hl with | [_, _, _, _], _ => rfl
    law_lay_sum := mkDef X G a41 l41 c41 k41 fun _ _ _ _ _ _ us hl => match us, hl with | [_, _], _ => rfl
    law_lay_walk := mkDef X G a42 l42 c42 k42 fun _ _ _ _ _ _ us hl => match us, hl with | [_, _, _, _], _ => rfl
    law_heard := mkDef X G a43 l43 c43 k43 fun _ _ _ _ _ _ us hl => match us, hl with | [_], _ => rfl
    law_with_noughts := mkDef X G a44 l44 c44 k44 fun _ _ _ _ _ _ us hl => match us, hl with | [_, _], _ => rfl
    law_met := mkDef X G a45 l45 c45 k45 fun _ _ _ _ _ _ us hl => match us, hl with | [_, _], _ => rfl
    law_nought := mkDef X G a46 l46 c46 k46 fun _ _ _ _ _ _ us hl => match us, hl with | [_, _], _ => rfl
    law_seen_right := mkDef X G a47 l47 c47 k47 fun _ _ _ _ _ _ us hl => match us, hl with | [_, _, _], _ => rfl
    law_long_right := mkDef X G a48 l48 c48 k48 fun _ _ _ _ _ _ us hl => match us, hl with | [_], _ => rfl
    law := mkDef X G a49 l49 c49 k49 fun _ _ _ _ _ _ us hl => match us, hl with | [_], _ => rfl
    init := ⟨fI, _, fun_mk lI cI kI, tI, fun us hl => match us, hl with | [_, _], _ => rfl⟩
    x_BadBook := ⟨C0, PySem.W.mg_of X G xg0, ⟨⟨_, _, _, _, _, _, _, _, _, _, _, _, _, _, _, xl0, (show PySem.HandSPX.refsVE [.type "ValueError", .type "Exception", .type "BaseException", .type "object"] = true by decide +kernel)⟩, xs0, xe0, xt0, xk0⟩, xi0, xa0, xb0, xw0, ⟨xa0, xb0, xe0, xc0, xo0, zcn, zct, xm0, xr0, xf0, ⟨_, _, _, _, mt0, xl0, rfl⟩, xn0⟩, xh0, xc0⟩
    x_Stray := ⟨C1, PySem.W.mg_of X G xg1, ⟨⟨_, _, _, _, _, _, _, _, _, _, _, _, _, _, _, xl1, (show PySem.HandSPX.refsVE [.type "ValueError", .type "Exception", .type "BaseException", .type "object"] = true by decide +kernel)⟩, xs1, xe1, xt1, xk1⟩, xi1, xa1, xb1, xw1, ⟨xa1, xb1, xe1, xc1, xo1, zcn, zct, xm1, xr1, xf1, ⟨_, _, _, _, mt1, xl1, rfl⟩, xn1⟩, xh1, xc1⟩
    x_BadRow := ⟨C2, PySem.W.mg_of X G xg2, ⟨⟨_, _, _, _, _, _, _, _, _, _, _, _, _, _, _, xl2, (show PySem.HandSPX.refsVE [.type "ValueError", .type "Exception", .type "BaseException", .type "object"] = true by decide +kernel)⟩, xs2, xe2, xt2, xk2⟩, xi2, xa2, xb2, xw2, ⟨xa2, xb2, xe2, xc2, xo2, zcn, zct, xm2, xr2, xf2, ⟨_, _, _, _, mt2, xl2, rfl⟩, xn2⟩, xh2, xc2⟩
    x_BadLaying := ⟨C3, PySem.W.mg_of X G xg3, ⟨⟨_, _, _, _, _, _, _, _, _, _, _, _, _, _, _, xl3, (show PySem.HandSPX.refsVE [.type "ValueError", .type "Exception", .type "BaseException", .type "object"] = true by decide +kernel)⟩, xs3, xe3, xt3, xk3⟩, xi3, xa3, xb3, xw3, ⟨xa3, xb3, xe3, xc3, xo3, zcn, zct, xm3, xr3, xf3, ⟨_, _, _, _, mt3, xl3, rfl⟩, xn3⟩, xh3, xc3⟩
    s_BadBook_BadRow := ps_BadBook_BadRow
    s_Stray_BadRow := ps_Stray_BadRow
    s_BadRow_BadRow := ps_BadRow_BadRow
    s_BadLaying_BadRow := ps_BadLaying_BadRow
    r_Refused := ⟨CR, PySem.W.mg_of X G rg, rc, rt, rb⟩
    q_BadBook := rq0
    v_BadBook := rv0
    q_Stray := rq1
    v_Stray := rv1
    q_BadRow := rq2
    v_BadRow := rv2
    q_BadLaying := rq3
    v_BadLaying := rv3
    n_isinstance := PySem.W.mg_none_of X G z0
    n_int := PySem.W.mg_none_of X G z1
    n_bool := PySem.W.mg_none_of X G z2
    n_tuple := PySem.W.mg_none_of X G z3
    n_len := PySem.W.mg_none_of X G z4
    n_list := PySem.W.mg_none_of X G z5
    n_enumerate := PySem.W.mg_none_of X G z6
    n_range := PySem.W.mg_none_of X G z7
    n_dict := PySem.W.mg_none_of X G z8
    n_all := PySem.W.mg_none_of X G z9
    n_zip := PySem.W.mg_none_of X G z10
    n_any := PySem.W.mg_none_of X G z11
    n_sorted := PySem.W.mg_none_of X G z12
    n_min := PySem.W.mg_none_of X G z13
    n_sum := PySem.W.mg_none_of X G z14
    n_max := PySem.W.mg_none_of X G z15
    n_ValueError := PySem.W.mg_none_of X G z16
    n_repr := PySem.W.mg_none_of X G z17
    c_MOST_STATES := ⟨_, PySem.W.mg_of X G y0⟩
    c_MOST_MESSAGES := ⟨_, PySem.W.mg_of X G y1⟩
    c_GREATEST_MESSAGE := ⟨_, PySem.W.mg_of X G y2⟩
    c_LONGEST_ROW := ⟨_, PySem.W.mg_of X G y3⟩
    c_MOST_WIRES := ⟨_, PySem.W.mg_of X G y4⟩
    c_MOST_PLACES := ⟨_, PySem.W.mg_of X G y5⟩
  }
  have gl : T.law.f = fa := Value.ref.inj (Option.some.inj (T.law.g.symm.trans hfa))
  refine ⟨fun p hp => ?_, ?_⟩
  · simp only [List.mem_cons, List.not_mem_nil, or_false] at hp
    rcases hp with rfl | rfl
    · exact ⟨tbN0, tbC0⟩
    · exact ⟨tbN1, tbC1⟩
  obtain rfl : f49 = fa := Value.ref.inj (Option.some.inj ((PySem.W.mg_of X G a49).symm.trans hfa))
  refine ⟨PySem.W.fnOf "law" "law" (defArgs s_law) (defBody s_law) (defScope s_law) .none kV49 dc49 pm49 an49 (.ref cL0) ct49, fun s v => .of_eq rfl, fun base _ _ TB => ?_⟩
  have gr0 : T.law.f = f49 := Value.ref.inj (Option.some.inj (T.law.g.symm.trans (PySem.W.mg_of X G a49)))
  have gr1 : T.law_long_right.f = f48 := Value.ref.inj (Option.some.inj (T.law_long_right.g.symm.trans (PySem.W.mg_of X G a48)))
  have r := ok_law (P := l.prog) (w := w) (base := base) T (by rw [gr0]; exact l49) c49 (TB (cL0, pL0) (by simp)) (by rw [gr1]; exact l48) c48 (TB (cL1, pL1) (by simp)) (fun z => by have z : pL0 = pL1 := z; rw [z] at tbD0_1; simp at tbD0_1)
  rw [gl] at r
  exact r
end Nv
open PySem PySem.W PyProof.Rows
set_option maxRecDepth 100000 in
set_option maxHeartbeats 0 in
theorem PySem.Challenge.cw_neverfour_k08_rows_along_layings_holds : PySem.Challenge.rw_neverfour_k08_rows_along_layings.Holds := by
  w_on; o_law; k_head; (case hw => w_witness2)
  k_fill
  refine' Nv.endGTs (Ts := [(?tc0, ?tp0), (?tc1, ?tp1)]) (l := PySem.Challenge.rw_neverfour_k08_rows_along_layings) (n := 63) (k := 12) (x := "script") (sp := Nv.spLaw) rfl (by decide) rfl ⟨rfl, by decide, by decide⟩ (fun w h Y => PySem.W.km_in_of Y) ?HP ?F (fun _ _ a ns hl hS hP => ⟨a, ns, rfl, hS, hl, hP, fun _ => rfl⟩)
  case F =>
    intro w mg fa h KX G hmg
    refine' Nv.all_mk KX G hmg ?a0 ?l0 ?c0 ?k0 ?a1 ?l1 ?c1 ?k1 ?a2 ?l2 ?c2 ?k2 ?a3 ?l3 ?c3 ?k3 ?df3 ?a4 ?l4 ?c4 ?k4 ?a5 ?l5 ?c5 ?k5 ?a6 ?l6 ?c6 ?k6 ?a7 ?l7 ?c7 ?k7 ?a8 ?l8 ?c8 ?k8 ?a9 ?l9 ?c9 ?k9 ?a10 ?l10 ?c10 ?k10 ?a11 ?l11 ?c11 ?k11 ?a12 ?l12 ?c12 ?k12 ?a13 ?l13 ?c13 ?k13 ?a14 ?l14 ?c14 ?k14 ?a15 ?l15 ?c15 ?k15 ?a16 ?l16 ?c16 ?k16 ?a17 ?l17 ?c17 ?k17 ?a18 ?l18 ?c18 ?k18 ?a19 ?l19 ?c19 ?k19 ?a20 ?l20 ?c20 ?k20 ?a21 ?l21 ?c21 ?k21 ?a22 ?l22 ?c22 ?k22 ?a23 ?l23 ?c23 ?k23 ?a24 ?l24 ?c24 ?k24 ?a25 ?l25 ?c25 ?k25 ?a26 ?l26 ?c26 ?k26 ?a27 ?l27 ?c27 ?k27 ?a28 ?l28 ?c28 ?k28 ?a29 ?l29 ?c29 ?k29 ?a30 ?l30 ?c30 ?k30 ?a31 ?l31 ?c31 ?k31 ?a32 ?l32 ?c32 ?k32 ?a33 ?l33 ?c33 ?k33 ?a34 ?l34 ?c34 ?k34 ?a35 ?l35 ?c35 ?k35 ?a36 ?l36 ?c36 ?k36 ?a37 ?l37 ?c37 ?k37 ?a38 ?l38 ?c38 ?k38 ?a39 ?l39 ?c39 ?k39 ?a40 ?l40 ?c40 ?k40 ?a41 ?l41 ?c41 ?k41 ?a42 ?l42 ?c42 ?k42 ?a43 ?l43 ?c43 ?k43 ?a44 ?l44 ?c44 ?k44 ?a45 ?l45 ?c45 ?k45 ?a46 ?l46 ?c46 ?k46 ?a47 ?l47 ?c47 ?k47 ?a48 ?l48 ?c48 ?k48 ?tbO1 ?tbV1 ?tbC1 ?tbN1 ?a49 ?l49 ?c49 ?k49 ?tbO0 ?tbV0 ?tbC0 ?tbN0 ?lI ?cI ?kI ?tI ?xg0 ?xl0 ?xs0 ?xe0 ?xt0 ?xk0 ?xi0 ?xa0 ?xb0 ?xw0 ?xh0 ?xc0 ?xm0 ?xr0 ?xf0 ?xn0 ?xo0 ?xg1 ?xl1 ?xs1 ?xe1 ?xt1 ?xk1 ?xi1 ?xa1 ?xb1 ?xw1 ?xh1 ?xc1 ?xm1 ?xr1 ?xf1 ?xn1 ?xo1 ?xg2 ?xl2 ?xs2 ?xe2 ?xt2 ?xk2 ?xi2 ?xa2 ?xb2 ?xw2 ?xh2 ?xc2 ?xm2 ?xr2 ?xf2 ?xn2 ?xo2 ?xg3 ?xl3 ?xs3 ?xe3 ?xt3 ?xk3 ?xi3 ?xa3 ?xb3 ?xw3 ?xh3 ?xc3 ?xm3 ?xr3 ?xf3 ?xn3 ?xo3 ?zcn ?zct ?ps_BadBook_BadRow ?ps_Stray_BadRow ?ps_BadRow_BadRow ?ps_BadLaying_BadRow ?rg ?rc ?rt ?rb ?rq0 ?rv0 ?rq1 ?rv1 ?rq2 ?rv2 ?rq3 ?rv3 ?z0 ?z1 ?z2 ?z3 ?z4 ?z5 ?z6 ?z7 ?z8 ?z9 ?z10 ?z11 ?z12 ?z13 ?z14 ?z15 ?z16 ?z17 ?y0 ?y1 ?y2 ?y3 ?y4 ?y5 ?tbD0_1
    (case a0 => k_is); (case l0 => k_is); (case c0 => k_is); (case k0 => k_is); (case a1 => k_is); (case l1 => k_is)
    (case c1 => k_is); (case k1 => k_is); (case a2 => k_is); (case l2 => k_is); (case c2 => k_is); (case k2 => k_is)
    (case a3 => k_is); (case l3 => k_is); (case c3 => k_is); (case k3 => k_is); (case df3 => k_is); (case a4 => k_is)
    (case l4 => k_is); (case c4 => k_is); (case k4 => k_is); (case a5 => k_is); (case l5 => k_is); (case c5 => k_is)
    (case k5 => k_is); (case a6 => k_is); (case l6 => k_is); (case c6 => k_is); (case k6 => k_is); (case a7 => k_is)
    (case l7 => k_is); (case c7 => k_is); (case k7 => k_is); (case a8 => k_is); (case l8 => k_is); (case c8 => k_is)
    (case k8 => k_is); (case a9 => k_is); (case l9 => k_is); (case c9 => k_is); (case k9 => k_is); (case a10 => k_is)
    (case l10 => k_is); (case c10 => k_is); (case k10 => k_is); (case a11 => k_is); (case l11 => k_is); (case c11 => k_is)
    (case k11 => k_is); (case a12 => k_is); (case l12 => k_is); (case c12 => k_is); (case k12 => k_is); (case a13 => k_is)
    (case l13 => k_is); (case c13 => k_is); (case k13 => k_is); (case a14 => k_is); (case l14 => k_is); (case c14 => k_is)
    (case k14 => k_is); (case a15 => k_is); (case l15 => k_is); (case c15 => k_is); (case k15 => k_is); (case a16 => k_is)
    (case l16 => k_is); (case c16 => k_is); (case k16 => k_is); (case a17 => k_is); (case l17 => k_is); (case c17 => k_is)
    (case k17 => k_is); (case a18 => k_is); (case l18 => k_is); (case c18 => k_is); (case k18 => k_is); (case a19 => k_is)
    (case l19 => k_is); (case c19 => k_is); (case k19 => k_is); (case a20 => k_is); (case l20 => k_is); (case c20 => k_is)
    (case k20 => k_is); (case a21 => k_is); (case l21 => k_is); (case c21 => k_is); (case k21 => k_is); (case a22 => k_is)
    (case l22 => k_is); (case c22 => k_is); (case k22 => k_is); (case a23 => k_is); (case l23 => k_is); (case c23 => k_is)
    (case k23 => k_is); (case a24 => k_is); (case l24 => k_is); (case c24 => k_is); (case k24 => k_is); (case a25 => k_is)
    (case l25 => k_is); (case c25 => k_is); (case k25 => k_is); (case a26 => k_is); (case l26 => k_is); (case c26 => k_is)
    (case k26 => k_is); (case a27 => k_is); (case l27 => k_is); (case c27 => k_is); (case k27 => k_is); (case a28 => k_is)
    (case l28 => k_is); (case c28 => k_is); (case k28 => k_is); (case a29 => k_is); (case l29 => k_is); (case c29 => k_is)
    (case k29 => k_is); (case a30 => k_is); (case l30 => k_is); (case c30 => k_is); (case k30 => k_is); (case a31 => k_is)
    (case l31 => k_is); (case c31 => k_is); (case k31 => k_is); (case a32 => k_is); (case l32 => k_is); (case c32 => k_is)
    (case k32 => k_is); (case a33 => k_is); (case l33 => k_is); (case c33 => k_is); (case k33 => k_is); (case a34 => k_is)
    (case l34 => k_is); (case c34 => k_is); (case k34 => k_is); (case a35 => k_is); (case l35 => k_is); (case c35 => k_is)
    (case k35 => k_is); (case a36 => k_is); (case l36 => k_is); (case c36 => k_is); (case k36 => k_is); (case a37 => k_is)
    (case l37 => k_is); (case c37 => k_is); (case k37 => k_is); (case a38 => k_is); (case l38 => k_is); (case c38 => k_is)
    (case k38 => k_is); (case a39 => k_is); (case l39 => k_is); (case c39 => k_is); (case k39 => k_is); (case a40 => k_is)
    (case l40 => k_is); (case c40 => k_is); (case k40 => k_is); (case a41 => k_is); (case l41 => k_is); (case c41 => k_is)
    (case k41 => k_is); (case a42 => k_is); (case l42 => k_is); (case c42 => k_is); (case k42 => k_is); (case a43 => k_is)
    (case l43 => k_is); (case c43 => k_is); (case k43 => k_is); (case a44 => k_is); (case l44 => k_is); (case c44 => k_is)
    (case k44 => k_is); (case a45 => k_is); (case l45 => k_is); (case c45 => k_is); (case k45 => k_is); (case a46 => k_is)
    (case l46 => k_is); (case c46 => k_is); (case k46 => k_is); (case a47 => k_is); (case l47 => k_is); (case c47 => k_is)
    (case k47 => k_is); (case a48 => k_is); (case l48 => k_is); (case c48 => k_is); (case k48 => k_is); (case tbO1 => k_is)
    (case tbV1 => rfl); (case tbC1 => kernel_rfl); (case tbN1 => kernel_rfl); (case a49 => k_is); (case l49 => k_is); (case c49 => k_is)
    (case k49 => k_is); (case tbO0 => k_is); (case tbV0 => rfl); (case tbC0 => kernel_rfl); (case tbN0 => kernel_rfl); (case xg0 => k_is)
    (case xl0 => k_is); (case xs0 => k_is); (case xe0 => k_is); (case xt0 => k_is); (case xk0 => k_is); (case xi0 => k_is)
    (case xa0 => k_is); (case xb0 => k_is); (case xw0 => k_is); (case xh0 => k_is); (case xc0 => k_is); (case xm0 => k_is)
    (case xr0 => k_is); (case xf0 => k_is); (case xn0 => k_is); (case xo0 => k_is); (case xg1 => k_is); (case xl1 => k_is)
    (case xs1 => k_is); (case xe1 => k_is); (case xt1 => k_is); (case xk1 => k_is); (case xi1 => k_is); (case xa1 => k_is)
    (case xb1 => k_is); (case xw1 => k_is); (case xh1 => k_is); (case xc1 => k_is); (case xm1 => k_is); (case xr1 => k_is)
    (case xf1 => k_is); (case xn1 => k_is); (case xo1 => k_is); (case xg2 => k_is); (case xl2 => k_is); (case xs2 => k_is)
    (case xe2 => k_is); (case xt2 => k_is); (case xk2 => k_is); (case xi2 => k_is); (case xa2 => k_is); (case xb2 => k_is)
    (case xw2 => k_is); (case xh2 => k_is); (case xc2 => k_is); (case xm2 => k_is); (case xr2 => k_is); (case xf2 => k_is)
    (case xn2 => k_is); (case xo2 => k_is); (case xg3 => k_is); (case xl3 => k_is); (case xs3 => k_is); (case xe3 => k_is)
    (case xt3 => k_is); (case xk3 => k_is); (case xi3 => k_is); (case xa3 => k_is); (case xb3 => k_is); (case xw3 => k_is)
    (case xh3 => k_is); (case xc3 => k_is); (case xm3 => k_is); (case xr3 => k_is); (case xf3 => k_is); (case xn3 => k_is)
    (case xo3 => k_is); (case zcn => k_is); (case zct => k_is); (case ps_BadBook_BadRow => k_is); (case ps_Stray_BadRow => k_is); (case ps_BadRow_BadRow => k_is)
    (case ps_BadLaying_BadRow => k_is); (case rg => k_is); (case rc => k_is); (case rt => k_is); (case rb => k_is); (case rq0 => k_is)
    (case rv0 => k_is); (case rq1 => k_is); (case rv1 => k_is); (case rq2 => k_is); (case rv2 => k_is); (case rq3 => k_is)
    (case rv3 => k_is); (case z0 => k_is); (case z1 => k_is); (case z2 => k_is); (case z3 => k_is); (case z4 => k_is)
    (case z5 => k_is); (case z6 => k_is); (case z7 => k_is); (case z8 => k_is); (case z9 => k_is); (case z10 => k_is)
    (case z11 => k_is); (case z12 => k_is); (case z13 => k_is); (case z14 => k_is); (case z15 => k_is); (case z16 => k_is)
    (case z17 => k_is); (case y0 => k_is); (case y1 => k_is); (case y2 => k_is); (case y3 => k_is); (case y4 => k_is)
    (case y5 => k_is); (case tbD0_1 => kernel_rfl); (case lI => k_is); (case cI => k_is); (case kI => k_is); (case tI => k_is)
  case HP =>
    intro w h Y p hp
    refine PySem.W.km_tabs_of Y _ ?_
    simp only [List.mem_cons, List.not_mem_nil, or_false] at hp
    rcases hp with rfl | rfl <;> decide
