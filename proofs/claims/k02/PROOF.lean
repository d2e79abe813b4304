import PyProof.Rows.All
import Wide.All
import OpenK.AllK
import Wide.FinOn
import HandS.ForMost
import HandS.Strs
import HandS.SetFor
import PyProof.Rows.SetFrom
import HandS.IsInst
import HandS.RaiseMore
import PyProof.ReprRoads
import KE.KDictPairs
import HandS.TupAny
import HandS.Iter
import HandS.Walk
import KE.GoesEnum
import HandS.ForExc
import HandS.ExcOwn
import HandS.WordsExc
import HandS.ExcIs
import HandS.SlotsOwn
import KE.KTypeName
import HandS.ExcInit
import HandS.Style
import HandS.Flow
import HandS.Codes
import HandS.Conv
import HandS.Defaults
import PySem.Challenge.RW_neverfour_k02_strays_and_meeting
import HandS.TupMul
import PyProof.ReprBulk
import PyProof.CallFns
import HandS.EndTab
import HandS.NestedK
import HandS.DictComp
import HandS.TryOnly
import HandS.NoneIn
set_option Elab.async false
set_option linter.all false
set_option maxRecDepth 100000
namespace Nv
open PySem PySem.Spec PyProof.Rows L2
section
variable {P : Program} {w : World} {A : Around} {E : Value → Shared → Prop} {s : Shared}
/-- an empty set as set(..) begins it -/
abbrev noSet (w : World) : Obj := { cls := .type "set", dict := none, data := .set #[] 0 (.fresh 0 0 (!w.params.followText "set-order")) }

/-- set.__init__ of a list of ints -/
theorem fillSet {S l : Addr} {xs : Array Value} {ns : List Int} {Q : Value → Shared → Prop} (quiet : A.handled = none)
    (hS : s.heap.get? S = some (noSet w)) (hl : s.heap.IsList l xs) (hi : IntsAre xs.toList ns) (room : ns.length + 1 < scanBound)
    (k : ∀ (g : Heap) (t c : Nat), SetR w g S (fun j => decide (j ∈ ns)) c → c ≤ ns.length → (∀ b o, b ≠ S → s.heap.get? b = some o → g.get? b = some o) → Q .none { s with heap := g, toks := t }) :
    codeAny (model P w) A (.call (.builtin "set.__init__") ⟨[.ref S, .ref l], []⟩) (wants Q E) s := by
  have sz : xs.size = ns.length := by have q := IntsAre.length hi; rwa [Array.length_toList] at q
  refine codeAny_call_builtin F.called_set.init.plain F.entry_set_init (check_set_init_1 ⟨_, hS, rfl⟩ ?_)
  obtain ⟨⟨lc, ld, ldata, lsl⟩, hol, hcl, nl, hdl⟩ := hl
  simp only at hcl hdl
  subst hcl hdl
  have sub1 := F.sub_list_set
  have sub2 := F.sub_list_frozenset
  have nodict : (Value.type "list" == Value.type "dict") = false := by decide
  have lst : s.heap.IsList l xs := ⟨_, hol, rfl, nl, rfl⟩
  have lS : l ≠ S := fun e => by
    subst e
    exact absurd (congrArg Obj.cls (Option.some.inj (hol.symm.trans hS))) (show ¬ Value.type "list" = Value.type "set" by decide)
  unfold Builtin.«set.__init__» noKeywords Builtin.Frozenset.updateFrom
  generalize hPI : pyIter = PI
  wp_walk
  subst hPI
  refine wpAny_pyIter_list lst ?_
  refine wpAny_bind (wpAny_runValue ?_)
  have lt1 : l < s.heap.objs.size := Heap.lt_size hol
  have lt2 : S < s.heap.objs.size := Heap.lt_size hS
  have q3 : A.in1.in1.handled = none := by simp [quiet]
  have apart : S ∉ [s.heap.objs.size, l] := by
    intro z
    rcases List.mem_cons.mp z with e | z
    · exact absurd e (Nat.ne_of_lt lt2)
    · exact lS (List.mem_singleton.mp z).symm
  have each : ∀ (i : Nat) (v : Value), xs[i]? = some v → ∃ n t, ns[i]? = some n ∧ v = .int n t := fun i v hv => by
    have b : i < ns.length := by rw [← sz]; exact (Array.getElem?_eq_some_iff.mp hv).1
    obtain ⟨t, e⟩ := IntsAre.int_at hi i v (by rw [Array.getElem?_toList]; exact hv)
    refine ⟨ns[i], t, List.getElem?_eq_getElem b, ?_⟩
    rw [e, List.getD_eq_getElem?_getD, List.getElem?_eq_getElem b]
    rfl
  refine set_update_ints ((Walks.list q3 s.heap.objs.size l (Nat.ne_of_lt lt1) xs).toS) S apart ns sz room each (xs.size - 0) 0 _ (by omega) (Nat.zero_le _) ⟨⟨_, Heap.get?_push_size _ rfl, rfl, rfl⟩, lst.push _⟩ ?z ?r
  case z => exact ⟨0, Nat.le_refl 0, setR_new_at (Heap.get?_push_of_some _ hS)⟩
  case r =>
    intro s2 c mv hc R
    obtain ⟨g, g2, d2, t2, o2⟩ := s2
    have e1 : g2 = s.gens := mv.gens
    have e2 : d2 = s.drawn := mv.drawn
    have e3 : o2 = s.os := mv.os
    subst e1 e2 e3
    show wpAny _ _ _ _ _ _
    refine wpAny_pure ?_
    show wpAny _ _ (ret Value.none) _ _ _
    rw [sz] at hc
    refine wpAny_pure (k g t2 c R hc fun b o nb e => ?_)
    have hb : b < s.heap.objs.size := Heap.lt_size e
    refine mv.heap b o (fun z => ?_) (Heap.get?_push_of_some _ e)
    rcases List.mem_cons.mp z with z | z
    · exact nb z
    · exact absurd (List.mem_singleton.mp z) (Nat.ne_of_lt hb)
/-- set(l), l a list of ints -/
theorem setOf {l : Addr} {xs : Array Value} {ns : List Int} {Q : Value → Shared → Prop} (quiet : A.handled = none) (hl : s.heap.IsList l xs) (hi : IntsAre xs.toList ns) (room : ns.length + 1 < scanBound)
    (k : ∀ (g : Heap) (t c : Nat), SetR w g s.heap.objs.size (fun j => decide (j ∈ ns)) c → c ≤ ns.length → (∀ b o, s.heap.get? b = some o → g.get? b = some o) → Q (.ref s.heap.objs.size) { s with heap := g, toks := t }) :
    wpAny (model P w) A (call (.type "set") [.ref l]) Q E s := by
  obtain ⟨c0, tl, mro⟩ := F.called_set.mro
  have made := F.called_set.made
  have sub := F.called_set.sub
  refine wpAny_call (codeAny_of_tree ?_)
  show wpAny _ _ (callAny (.type "set") _) _ _ _
  refine wpAny_pure ⟨Code.quiet_builtin _ (by decide +kernel), codeAny_builtin F.entry_type_call ?_⟩
  rw [Around.under_plain (weight_type_call_type "set" [.ref l] []) rfl]
  have f1 := F.called_set.notType
  have f2 := F.called_set.canCreate
  have f3 := F.typeCall_set_1 (.ref l)
  repeat (any_goals (first | assumption | wp_step))
  refine codeAny_mono (code_set_led1 (w := w) (.ref l) (E := E) (Q₁ := fun v s1 => v = .ref s.heap.objs.size ∧ s1 = { s with heap := s.heap.push (noSet w) }) ⟨rfl, rfl⟩) fun r s1 hr => ?_
  rcases r with e | fl
  · exact hr
  · cases fl with
    | ret v =>
      obtain ⟨rfl, rfl⟩ := hr
      have at0 : (s.heap.push (noSet w)).get? s.heap.objs.size = some (noSet w) := Heap.get?_push_size _ rfl
      have ty : Shared.TypeIs { s with heap := s.heap.push (noSet w) } (.ref s.heap.objs.size) "set" := ⟨_, at0, rfl⟩
      have f4 := F.called_set.init.lookup
      have f5 := F.called_set.init.bind (.ref s.heap.objs.size)
      repeat (any_goals (first | assumption | wp_step))
      refine codeAny_mono (fillSet (E := E) (Q := fun v s2 => v = .none ∧ ∃ g t c, s2 = { s with heap := g, toks := t } ∧ SetR w g s.heap.objs.size (fun j => decide (j ∈ ns)) c ∧ c ≤ ns.length ∧ ∀ b o, s.heap.get? b = some o → g.get? b = some o)
        (by simp [quiet]) at0 (hl.push _) hi room fun g t c R hc kp => ⟨rfl, g, t, c, rfl, R, hc, fun b o e => kp b o (Nat.ne_of_lt (Heap.lt_size e)) (Heap.get?_push_of_some _ e)⟩) fun r2 s2 hr2 => ?_
      rcases r2 with e | fl2
      · exact hr2
      · cases fl2 with
        | ret v2 =>
          obtain ⟨rfl, g, t, c, rfl, R, hc, kp⟩ := hr2
          repeat (any_goals (first | assumption | wp_step))
          exact k g t c R hc kp
        | _ => exact hr2.elim
    | _ => exact hr.elim
end
/-- set(l): the new set -/
def rSetI (K : PySem.W.Frag) (w : World) : List V → Hp → VK → Prop := fun xs H Q => ∃ (l : Addr) (ns : List Int), xs = [.ref l] ∧ SqL K H l (ns.map V.int) ∧ ns.length ≤ 4000 ∧ ∀ (p : Addr) (c : Nat), H p = none → c ≤ ns.length → Q (.ref p) (upd H p (SetO w p (fun j => decide (j ∈ ns)) c))
theorem cr_setI {X : Cx} (hc : X.calm = true) : CallR X (.type "set") (rSetI X.K X.w) := by
  intro pins s σ H xs us Q I r h
  obtain ⟨l, ns, rfl, hq, hz, q⟩ := h
  obtain ⟨u, rfl, rx⟩ := vals1 r
  cases rx
  obtain ⟨its, rv, ⟨o, n, ho, hcl, hd, hdat⟩, _⟩ := I.list hq
  refine setOf (I.ok.hd hc) (show s.heap.IsList l its.toArray from ⟨o, ho, hcl, n, hdat⟩) (ints_of_vals rv) (by unfold scanBound; omega) fun g t c R hcn kp => ?_
  have new : H s.heap.objs.size = none := I.hok.fresh (Nat.le_refl _)
  exact ⟨.ref s.heap.objs.size, upd H s.heap.objs.size (SetO X.w s.heap.objs.size (fun j => decide (j ∈ ns)) c), I.laid (t' := t) kp (Nat.le_refl _) (setO_new R), rfl, q _ c new hcn⟩
end Nv
set_option Elab.async false
set_option linter.all false
set_option maxRecDepth 100000
namespace Nv
open PySem PySem.Spec PyProof.Rows L2
/-! ### tuples whose object is known to have no dict of its own -/
def TupZ (H : Hp) (a : Addr) (xs : List V) : Prop := ∃ o : Obj, H a = some (.frz o (.tup xs)) ∧ o.dict = none
theorem TupZ.sq {K : PySem.W.Frag} {H : Hp} {a : Addr} {xs : List V} (h : TupZ H a xs) : SqT K H a xs := by
  obtain ⟨o, e, _⟩ := h
  exact .inl (.inr ⟨o, e⟩)
def rTupZ (K : PySem.W.Frag) : List V → Hp → VK → Prop := fun xs H Q => ∃ (p : Addr) (ys : List V), xs = [.ref p] ∧ SqL K H p ys ∧ ∀ (l : Addr) (H' : Hp), H l = none → (∃ o : Obj, o.dict = none ∧ H' = upd H l (.frz o (.tup ys))) → Q (.ref l) H'
theorem call_tupZ {X : Cx} : CallR X (.type "tuple") (rTupZ X.K) := by
  intro pins s σ H xs us Q I r h
  obtain ⟨p, ys, rfl, hq, q⟩ := h
  obtain ⟨u, rfl, rx⟩ := vals1 r
  cases rx
  obtain ⟨its, rv, pl, hz⟩ := I.list hq
  have hlen := rv.length
  refine call_tuple_list pl.isList (fun g kp => ?_) (by simp only [List.size_toArray]; omega)
  have I1 : Inv X pins σ H { s with heap := g } := I.kept (t' := s.toks) kp
  have I2 : Inv X pins σ (upd H g.objs.size (.frz { cls := .type "tuple", data := .seq its.toArray } (.tup ys))) { s with heap := g.push { cls := .type "tuple", data := .seq its.toArray } } :=
    I1.laid (t' := s.toks) (fun b o e => Heap.get?_push_of_some _ e) (Nat.le_refl _) (show ObjOk X.prog X.w _ _ _ (.frz _ (.tup ys)) from ⟨Heap.get?_push_size _ rfl, hz, its, rv, IsTup.new _ _⟩)
  exact ⟨.ref g.objs.size, _, I2, rfl, q _ _ (I1.hok.fresh (Nat.le_refl _)) ⟨_, rfl, rfl⟩⟩

theorem pickL {α : Type} {n : Nat} {R : Nat → α → Prop} (h : ∀ j, j < n → ∃ x, R j x) : ∃ l : List α, l.length = n ∧ ∀ j x, l[j]? = some x → R j x := by
  induction n with
  | zero => exact ⟨[], rfl, fun j x e => by simp at e⟩
  | succ n ih =>
    obtain ⟨l, hl, hR⟩ := ih fun j hj => h j (Nat.lt_succ_of_lt hj)
    obtain ⟨x, hx⟩ := h n (Nat.lt_succ_self n)
    refine ⟨l ++ [x], by simp [hl], fun j y e => ?_⟩
    by_cases hj : j < n
    · rw [List.getElem?_append_left (by omega)] at e
      exact hR j y e
    · rw [List.getElem?_append_right (by omega)] at e
      have hj2 : j = n := by
        have := (List.getElem?_eq_some_iff.mp e).1
        simp at this
        omega
      subst hj2
      rw [hl, Nat.sub_self] at e
      cases e
      exact hx
/-! ### dict(t), t such a tuple of pairs -/
def rDictT (K : PySem.W.Frag) : List V → Hp → VK → Prop := fun xs H Q => ∃ (a : Addr) (ps : List Addr) (kvs : List (Key × V)), xs = [.ref a] ∧ TupZ H a (ps.map V.ref) ∧ Paired (fun p kv => SqT K H p [kV kv.1, kv.2]) ps kvs ∧
  ∀ p, H p = none → Q (.ref p) (upd H p (.dK (mergeK [] kvs)))
theorem call_dictT {X : Cx} (hc : X.calm = true) : CallR X (.type "dict") (rDictT X.K) := by
  intro pins s σ H xs us Q I r h
  obtain ⟨a, ps, kvs, rfl, ⟨o, ha, hd⟩, hp, q⟩ := h
  obtain ⟨u, rfl, rx⟩ := vals1 r
  cases rx
  have ok := I.hok a _ ha
  obtain ⟨hget, hz, its, rv, o2, ho2, hcl, n, hdat⟩ := ok
  have eo : o = o2 := Option.some.inj (hget.symm.trans ho2)
  subst eo
  have ei := refs_at rv
  subst ei
  rw [List.length_map] at hz
  obtain ⟨prs, rel, hl, hpr⟩ := pairs_of I hp
  -- the pairs as values
  obtain ⟨ws, wl, hw⟩ := pickL (n := prs.length) (R := fun j (x : Value × Value) => ∃ b kv, ps[j]? = some b ∧ prs[j]? = some kv ∧ kv.2 = x.2 ∧ IsTup s.heap b #[x.1, x.2] ∧ keyIs kv.1 x.1 = true) fun j hj => by
    obtain ⟨b, u, e1, e2, e3⟩ := hpr j prs[j] (List.getElem?_eq_getElem hj)
    exact ⟨(u, prs[j].2), b, prs[j], e1, List.getElem?_eq_getElem hj, rfl, e2, e3⟩
  have P := PairArg.tuple (prog := X.prog) (w := X.w) a (ps.map Value.ref).toArray (fun j => ps.getD j 0) ws
  refine PySem.call_dict_pairs (knd := mixKind X.prog X.w) (kvs := prs) P (I.ok.hd hc) ⟨⟨o, n, hget, hcl, hd, hdat⟩, by simp [wl, hl], fun j k v e => ?_⟩ ⟨by rw [wl], fun i key v e => ?_⟩ (by rw [wl, hl]; exact hz) fun g tk hd' kp => ?_
  · obtain ⟨b, kv, e1, e2, e3, e4, e5⟩ := hw j (k, v) e
    refine ⟨by simp [e1], ?_⟩
    show PairAt s.heap (ps.getD j 0) k v
    rw [List.getD_eq_getElem?_getD, e1]
    obtain ⟨ob, h1, h2, m, h3⟩ := e4
    exact .inl ⟨ob, h1, h2, m, h3⟩
  · obtain ⟨b, kv, e1, e2, e3, e4, e5⟩ := hw i (key, v) e
    obtain ⟨k0, v0⟩ := kv
    cases e3
    exact ⟨k0, e2, e5⟩
  · have kall : ∀ b o, s.heap.get? b = some o → g.get? b = some o := fun b o e => kp b o (by simp) e
    have hm : (s.heap.objs.size == sysModules) = false := beq_eq_false_iff_ne.mpr (Nat.ne_of_gt I.big)
    have hlen : (mergeK [] kvs).length ≤ sizeLine := by
      refine Nat.le_trans (length_mergeK kvs []) ?_
      rw [List.length_nil, Nat.zero_add, rel.length, hl]
      exact hz
    exact ⟨.ref s.heap.objs.size, upd H s.heap.objs.size (.dK (mergeK [] kvs)), I.laid (t' := tk) kall (Nat.le_refl _) (show ObjOk X.prog X.w _ _ _ (.dK (mergeK [] kvs)) from ⟨hlen, hm, merged [] prs, KV.merge rel .nil, hd'⟩), rfl, q _ (I.hok.fresh (Nat.le_refl _))⟩

/-! ### repr -/
theorem isDisp_of {K : PySem.W.Frag} {H : Hp} {a : Addr} {d : PyData} (h : Dp K H (.ref a) d) : (∃ ds, d = .list ds) ∨ ∃ ds, d = .tuple ds := by
  cases h with
  | lst _ _ => exact .inl ⟨_, rfl⟩
  | tup _ _ => exact .inr ⟨_, rfl⟩
/-- repr(x) of data at an address; nothing is being shown around -/
def rRepr (K : PySem.W.Frag) : List V → Hp → VK → Prop := fun xs H Q => ∃ (a : Addr) (d : PyData), xs = [.ref a] ∧ Dp K H (.ref a) d ∧ d.showable = true ∧ d.hasDict = false ∧ d.depth ≤ 60 ∧ d.shown.length ≤ sizeLine ∧ Q (.str d.shown) H
theorem call_reprD {X : Cx} (hu : X.A.units + 64 < cLine) (hg : X.A.guards = some []) : CallR X (.builtin "repr") (rRepr X.K) := by
  intro pins s σ H xs us Q I r h
  obtain ⟨a, d, rfl, hd, h1, h2, h3, h4, q⟩ := h
  obtain ⟨u, rfl, rx⟩ := vals1 r
  obtain ⟨as, rd⟩ := Dp.reads I d _ _ hd rx
  cases rx
  refine repr_of_reads' rd h1 (fun z => by rw [h2] at z; cases z) hg (by omega) (fun b o e => e) (fun g u tk kp => ?_) h4
  exact ⟨.str d.shown, H, I.kept (t' := tk) kp, ⟨u, rfl⟩, q⟩
end Nv
set_option Elab.async false
set_option linter.all false
set_option maxRecDepth 100000
namespace Nv
open PySem PySem.Spec PyProof.Rows L2
/-! ### defs that are called where nothing is being shown (repr looks at that) -/
structure FnG (P : Program) (w : World) (K : PySem.W.Frag) (mg : Str → Option Value) (base : Heap) (CX : CXT) (k : Nat) (f : Addr) (fd : FuncData) (ps : List Str) (sp : Sp) : Prop where
  len : ∀ vs H Q E, sp vs H Q E → vs.length = ps.length
  run : ∀ (A : Around) (outer : List Env) (s : Shared) (H : Hp) (args : Args) (us : List Value) (vs : List V) (Q : VK) (E : XK), A.guards = some [] → Room k A → Env0 P w K mg base A outer s H →
    BindsTo s fd args (ps.zip us) → Vals vs us → sp vs H Q E → codeAny (model P w) A (.call (.ref f) args) (CR CX outer P w H s Q E) s
section
variable {P : Program} {w : World} {K : PySem.W.Frag} {mg : Str → Option Value} {base : Heap} {CX : CXT}
theorem FnG.of {k : Nat} {f : Addr} {fd : FuncData} {ps : List Str} {sp : Sp} (F : FnOk P w K mg base CX k f fd ps sp) : FnG P w K mg base CX k f fd ps sp :=
  ⟨F.len, fun A outer s H args us vs Q E _ r e b v h => F.run A outer s H args us vs Q E r e b v h⟩
/-- a def by its body; in the body nothing is being shown -/
theorem fnG_of {k : Nat} {f : Addr} {name qual : Str} {params : Arguments} {body : List Stmt} {scope : Scope} {dV kV doc pm cdv ct oc : Value} {an od : Option Addr} {osl : Array (Option Value)} {N ps : List Str} {sp : Sp}
    (lk : K.lookup f = some ⟨oc, od, .func (PySem.W.fnOf name qual params body scope dV kV doc pm an cdv ct), osl⟩) (cd : PySem.W.codeIn K cdv qual = true) (S : FnScope N ps scope) (len : ∀ vs H Q E, sp vs H Q E → vs.length = ps.length)
    (walk : ∀ (A : Around) (outer : List Env) (s : Shared) (H : Hp) (vs : List V) (Q : VK) (E : XK), A.guards = some [] → Room k (A.deeper (envOfC qual scope s.heap.objs.size f cdv)) → sp vs H Q E →
      ∃ t, PSs (cxOf CX P w K mg base N qual scope f cdv A outer s H E) body t ∧ t { nx := fun _ H' => Q .non H', rt := Q } (start N vs) H) :
    FnG P w K mg base CX (k + 1) f (PySem.W.fnOf name qual params body scope dV kV doc pm an cdv ct) ps sp := by
  refine ⟨len, fun A outer s H args us vs Q E hg room e0 bind rel want => ?_⟩
  have here : ∀ b o, base.get? b = some o → s.heap.get? b = some o := fun b o e => (e0.bs b o e).1
  have KX : K.In s.heap := e0.mod.kin.keeps here
  have lim : s.heap.NoLimit := e0.mod.nolimit.keeps here
  refine codeAny_call_function room.depth (KX _ _ lk) rfl S.co S.gen rfl (PySem.W.codeRec_of KX cd) (bind _ _ _ _ ?_)
  refine wpAny_newFunctionEnv_cells S.kind (fun ⟨n, v⟩ hy => ?_) fun env he s1 x => ?_
  · rcases S.par n (List.of_mem_zip hy).1 with z | z
    · exact .inl z
    · exact .inr ⟨z, PySem.W.cellsFrom_some _ _ _ (.inl z)⟩
  · subst he
    refine ⟨lim.keeps x.toInCall.keep, codeAny_func ?_⟩
    obtain ⟨t, ht, hq⟩ := walk A outer s H vs Q E hg (room.deeper _) want
    refine wpAny_mono (ht.run [] s1 (start N vs) H _ (inv_start S room.hd e0 (len _ _ _ _ want) rel x) hq) (fun fl s' hs => ?_) fun e s' hs => hs
    cases fl with
    | ret u =>
      obtain ⟨v, σ', H', J, rv, q⟩ := hs
      exact ⟨v, H', J.os, J.bare, J.base, J.hok, rv, q⟩
    | next =>
      obtain ⟨σ', H', J, q⟩ := hs
      exact ⟨V.non, H', J.os, J.bare, J.base, J.hok, rfl, q⟩
    | brk => exact (hs.choose_spec.choose_spec.2 : False).elim
    | cont => exact (hs.choose_spec.choose_spec.2 : False).elim
theorem FunG.ok {x qual : Str} {st : Stmt} {f : Addr} {fd : FuncData} {N ps : List Str} {k : Nat} {sp : Sp} (F : Fun K x qual st f fd) (S : FnScope N ps (defScope st)) (len : ∀ vs H Q E, sp vs H Q E → vs.length = ps.length)
    (walk : ∀ (cdv : Value) (A : Around) (outer : List Env) (s : Shared) (H : Hp) (vs : List V) (Q : VK) (E : XK), A.guards = some [] → Room k (A.deeper (envOfC qual (defScope st) s.heap.objs.size f cdv)) → sp vs H Q E →
      ∃ t, PSs (cxOf CX0 P w K mg base N qual (defScope st) f cdv A outer s H E).nox (defBody st) t ∧ t { nx := fun _ H' => Q .non H', rt := Q } (start N vs) H) : FnG P w K mg base CX0 (k + 1) f fd ps sp := by
  obtain ⟨oc, od, kV, doc, pm, an, cdv, ct, osl, rfl, lk, cd⟩ := F.ex
  refine fnG_of lk cd S len fun A outer s H vs Q E hg hr want => ?_
  obtain ⟨t, h, q⟩ := walk cdv A outer s H vs Q E hg hr want
  exact ⟨t, h.nox, q⟩
end
section
variable {X : Cx} {CX : CXT} {k : Nat} {f : Addr} {fd : FuncData} {ps : List Str} {sp : Sp} {dvs : List V} {ds : List Value} {E : XK} {x : Str} {p pos : Pos} {e : Expr} {es : List Expr} {t : TA}
/-- a call of such a def where nothing is being shown -/
theorem pe_callG (F : FnG X.prog X.w X.K X.mg X.base CX k f fd ps sp) (hG : X.A.guards = some []) (hr : Room k X.A) (hg : Gl X x) (hm : X.mg x = some (.ref f)) (hk : PySem.W.keepIn X.K (.ref f) = true) (hb : Binds X.K fd ps ds) (hd : Vals dvs ds) (hx : Passes CX X E)
    (ha : PA X (e :: es) t) (hdb : (x == ("__debug__" : Str)) = false := by decide) (he : starEach (e :: es) X.env = (false, eval e X.env) :: starEach es X.env := by rfl) (hpl : (backTo pos (starEach es X.env)).any (·.1) = false := by rfl) :
    PE X (.Call (.Name x p) (e :: es) [] pos) (tCall sp dvs E t) := by
  refine ⟨fun pins s σ H Q I h => wpAny_Call_Name_kw (ld_glob I hg hm (PySem.W.callWith_K (h₀ := X.base) I.ok.mod.kin hk (thn (ha.run pos pins s σ H _ I h) fun us s1 ⟨vs, H1, I1, r, q⟩ => ⟨I1.kIn, ?_⟩) he hpl) hdb)⟩
  have r2 : Vals (vs ++ dvs) (us ++ ds) := r.append hd
  have hl : (us ++ ds).length = ps.length := by rw [← r2.length]; exact F.len _ _ _ _ q
  refine wpAny_call (codeAny_mono (F.run X.A X.stack s1 H1 ⟨us, []⟩ (us ++ ds) (vs ++ dvs) Q E hG hr I1.env0 (hb s1 us I1.kIn hl) r2 q) fun rr s' hq => ?_)
  rcases rr with ee | fl
  · exact hx pins σ H1 s1 ee s' I1 hq
  · cases fl with
    | ret u => exact I1.after hq
    | next => exact hq.elim
    | brk => exact hq.elim
    | cont => exact hq.elim
end
/-! ### the end: the law itself, such a def -/
theorem script_gone {P : Program} {w : World} {K : PySem.W.Frag} {h : Heap} {a : Addr} {xs : List Value} {ns : List Int} (KX : K.In h) (ha : h.get? a = some { cls := .type "list", data := .seq xs.toArray }) (hi : IntsAre xs ns) (hl : ns.length ≤ sizeLine) :
    ∃ H : Hp, Only H ∧ SqL K H a (ns.map V.int) ∧ HOk P w H h ∧ (∀ b u, H b = some u → b = a ∧ K.lookup a = none) := by
  have rv := vals_ints hi
  cases hk : K.lookup a with
  | some o =>
    obtain rfl := Option.some.inj ((KX a o hk).symm.trans ha)
    refine ⟨fun _ => none, fun _ => .inl rfl, .inr ⟨_, xs.toArray, _, hk, rfl, rfl, rfl, by rw [List.size_toArray, hi.length]; exact hl, by simpa using rv⟩, fun b u z => (by have z' : (none : Option HO) = some u := z; cases z'), fun b u z => (by have z' : (none : Option HO) = some u := z; cases z')⟩
  | none =>
    have on : ∀ b u, (if b = a then some (HO.frz { cls := .type "list", data := .seq xs.toArray } (.lst (ns.map V.int))) else none) = some u → b = a ∧ u = HO.frz { cls := .type "list", data := .seq xs.toArray } (.lst (ns.map V.int)) := fun b u z => by
      split at z
      · exact ⟨by assumption, (Option.some.inj z).symm⟩
      · cases z
    refine ⟨fun b => if b = a then some (.frz { cls := .type "list", data := .seq xs.toArray } (.lst (ns.map V.int))) else none, fun b => ?_, .inl (.inr ⟨_, if_pos rfl⟩), fun b u z => ?_, fun b u z => ⟨(on b u z).1, rfl⟩⟩
    · by_cases hb : b = a
      · exact .inr ⟨_, _, if_pos hb⟩
      · exact .inl (if_neg hb)
    · obtain ⟨rfl, rfl⟩ := on b u z
      exact ⟨ha, by rw [List.length_map]; exact hl, xs, _, rv, ha⟩
theorem endG {l : PySem.W.OpenLaw} {n k : Nat} {q : Program} {loose : List Str} {XP : (Str → Option Value) → Heap → Prop} {YP : World → Heap → Prop} {d : DefRec} {K : Params → PySem.W.Frag} {sp : PySem.W.Frag → Sp} {x : Str}
    (hn : l.most = some n) (hn2 : n ≤ sizeLine) (hdf : d.params.defaults = []) (hr : Room k callerA) (hY : ∀ (w : World) (h : Heap), YP w h → (K w.params).In h)
    (F : ∀ (w : World) (mg : Str → Option Value) (fa : Addr) (h : Heap), (K w.params).In h → h.Ns mainGlobals mg → mg d.name = some (.ref fa) →
      ∃ fd : FuncData, (∀ (s : Shared) (u : Value), BindsTo s fd ⟨[u], []⟩ [(x, u)]) ∧ ∀ base : Heap, (K w.params).In base → base.Ns mainGlobals mg → FnG l.prog w (K w.params) mg base CX0 k fa fd [x] (sp (K w.params)))
    (hsp : ∀ (K : PySem.W.Frag) (H : Hp) (a : Addr) (ns : List Int), ns.length ≤ n → SqL K H a (ns.map V.int) → sp K [.ref a] H (fun v _ => v = .bl true) fun _ _ _ => False) :
    PySem.W.WalkO q loose XP YP l.row.toRowW d [] (fun f vs => PySem.call f vs) := by
  refine Att.attach_call hn hdf fun w s₀ s1 mg mb fa o pm cd doc a vs ns G Y ho hd hcd hmg hobj hints hlen hg => ?_
  have KX := hY w _ Y
  obtain ⟨fd, hb, hF⟩ := F w mg fa _ KX G.T.g hmg
  have small : ns.length ≤ sizeLine := Nat.le_trans hlen hn2
  obtain ⟨H, only, seen, hok, dom⟩ := script_gone (P := l.prog) (w := w) KX hobj hints small
  -- the heap without the script
  have free : ∀ {b : Addr} {o : Obj}, s1.heap.get? b = some o → (∀ xs k, o.data ≠ .seq xs k) → H b = none := fun {b o} e ne => by
    cases q : H b with
    | none => rfl
    | some u =>
      obtain ⟨rfl, _⟩ := dom b u q
      rw [hobj] at e
      cases e
      exact (ne _ _ rfl).elim
  have ns : ∀ {b : Addr} {m : Str → Option Value}, s1.heap.Ns b m → (hidT s1.heap H).Ns b m := fun {b m} ⟨o, es, ep, e, dd, r⟩ => ⟨o, es, ep, hidT_get e (free e (by rw [dd]; intro _ _ z; cases z)), dd, r⟩
  have inK : (K w.params).In (hidT s1.heap H) := fun b o e => hidT_get (KX b o e) (by
    cases q : H b with
    | none => rfl
    | some u =>
      obtain ⟨rfl, z⟩ := dom b u q
      rw [z] at e
      cases e)
  have M : Mod (K w.params) mg (hidT s1.heap H) := ⟨inK, ns G.T.g, ⟨mb, ns G.T.b, G.T.builtins⟩, let ⟨mc, h1, h2⟩ := G.T.nolimit; ⟨mc, ns h1, h2⟩⟩
  have e0 : Env0 l.prog w (K w.params) mg (hidT s1.heap H) callerA [] s1 H := ⟨rfl, M, fun b o e => of_hidT e, Nat.le_of_eq (hidT_size _ _), trivial, fun b z => absurd (show b ∈ ([] : List Addr) from z) (by simp), hok, AllBare.of_eq hg⟩
  refine codeAny_mono ((hF _ inK (ns G.T.g)).run callerA [] s1 H ⟨[.ref a], []⟩ [.ref a] [.ref a] _ _ rfl hr e0 (hb s1 (.ref a)) (.cons rfl .nil) (hsp _ H a _ hlen seen)) fun r s' h => ?_
  rcases r with e | fl
  · exact (h : False).elim
  · cases fl with
    | next => exact (h : False).elim
    | brk => exact (h : False).elim
    | cont => exact (h : False).elim
    | ret u =>
      obtain ⟨v, H', os, bare, un, hok', rv, qv⟩ := h
      obtain rfl : v = .bl true := qv
      obtain rfl : u = Value.bool true := rv
      refine ⟨rfl, OldK.of_keep fun b o e => ?_, os, bare⟩
      cases z : H b with
      | none => exact un.keep b o e z (fun z => absurd (show b ∈ ([] : List Addr) from z) (by simp)) (by simp)
      | some u =>
        obtain ⟨ob, ys, z2⟩ : ∃ ob ys, H b = some (.frz ob (.lst ys)) := by
          rcases only b with z3 | z3
          · rw [z3] at z; cases z
          · exact z3
        obtain ⟨g1, _⟩ := hok b _ z2
        obtain ⟨g2, _⟩ := hok' b _ (un.frzs b ob _ z2)
        rw [e] at g1
        cases g1
        exact g2
end Nv
set_option Elab.async false
set_option linter.all false
set_option maxRecDepth 100000
namespace Nv
open PySem PySem.Spec PyProof.Rows L2
/-! ### the layer's rules with the written part named (within a comprehension's block) -/
section
variable {X : Cx} (K : PySem.W.Frag)
theorem ix_listK (h : X.K = K := by rfl) : IxR X (rIxL K) := by subst h; exact ix_list
theorem ix_tupK (h : X.K = K := by rfl) : IxR X (rIxT K) := by subst h; exact ix_tup
theorem op_in_seqK (h : X.K = K := by rfl) : OpR X (compareOp .In) (rIn K false) := by subst h; exact op_in_seq
theorem op_notIn_seqK (h : X.K = K := by rfl) : OpR X (compareOp .NotIn) (rIn K true) := by subst h; exact op_notIn_seq
def rLen (K : PySem.W.Frag) : List V → Hp → VK → Prop := fun xs H Q => ∃ p ys, xs = [.ref p] ∧ (SqL K H p ys ∨ SqT K H p ys) ∧ Q (.int ys.length) H
theorem call_len_seqK (h : X.K = K := by rfl) : CallR X (.builtin "len") (rLen K) := by subst h; exact call_len_seq
theorem mt_indexK (h : X.K = K := by rfl) : MtR X "list.index" (rIndex K) := by subst h; exact mt_index
theorem call_tupZK (h : X.K = K := by rfl) : CallR X (.type "tuple") (rTupZ K) := by subst h; exact call_tupZ
def rListOf (K : PySem.W.Frag) : List V → Hp → VK → Prop := fun xs H Q => ∃ p ys, xs = [.ref p] ∧ (SqL K H p ys ∨ SqT K H p ys) ∧ ∀ l, H l = none → Q (.ref l) (upd H l (.lst ys))
theorem call_list_ofK (h : X.K = K := by rfl) : CallR X (.type "list") (rListOf K) := by subst h; exact call_list_of
theorem call_dictTK (h : X.K = K := by rfl) (hc : X.calm = true := by rfl) : CallR X (.type "dict") (rDictT K) := by subst h; exact call_dictT hc
theorem cr_setIK (w : World) (h : X.K = K := by rfl) (h2 : X.w = w := by rfl) (hc : X.calm = true := by rfl) : CallR X (.type "set") (rSetI K w) := by subst h h2; exact cr_setI hc
theorem cr_sortedSetK (w : World) (h2 : X.w = w := by rfl) (hc : X.calm = true := by rfl) : CallR X (.builtin "sorted") (rSortedSet w) := by subst h2; exact cr_sortedSet hc
theorem cr_sortedK (h : X.K = K := by rfl) : CallR X (.builtin "sorted") (rSorted K) := by subst h; exact cr_sorted
theorem cr_anyK (h : X.K = K := by rfl) (hc : X.calm = true := by rfl) : CallR X (.builtin "any") (rAny K) := by subst h; exact cr_any hc
theorem cr_sumK (h : X.K = K := by rfl) (hc : X.calm = true := by rfl) : CallR X (.builtin "sum") (rSum K) := by subst h; exact cr_sum hc
theorem call_isiK' (h : X.K = K := by rfl) : CallR X (.builtin "isinstance") (rIsi K) := by subst h; exact call_isi
theorem op_eqDK (hu : X.A.units + 64 < cLine) (h : X.K = K := by rfl) : OpR X (compareOp .Eq) (rEqD K) := by subst h; exact op_eqD hu
theorem op_neDK (hu : X.A.units + 64 < cLine) (h : X.K = K := by rfl) : OpR X (compareOp .NotEq) (rNeD K) := by subst h; exact op_neD hu
theorem sl_listK (h : X.K = K := by rfl) : SlR X (rSlL K) := by subst h; exact sl_list
theorem call_reprDK (hu : X.A.units + 64 < cLine) (hg : X.A.guards = some []) (h : X.K = K := by rfl) : CallR X (.builtin "repr") (rRepr K) := by subst h; exact call_reprD hu hg
theorem pi_listK {tg l : Expr} {tl : TE} (hl : PE X l tl) (h : X.K = K := by rfl) : PI X tg l (iList K tl) := by subst h; exact pi_list hl
theorem pi_tupK {tg l : Expr} {tl : TE} (hl : PE X l tl) (h : X.K = K := by rfl) : PI X tg l (iTup K tl) := by subst h; exact pi_tup hl
theorem pg_tupK {es : List Expr} {k : Nat} {t : TGs} {n : Nat} {pos : Pos} (hc : X.calm = true) (hh : PGs X es t) (h : X.K = K := by rfl) (hn : (assignEach es X.env).length = n := by rfl) (hst : (assignEach es X.env).findIdx? (·.1) = none := by rfl) :
    PG X (.Tuple es k pos) (gTup K n t) := by subst h; exact pg_tup hc hh hn hst
theorem pe_bmK {T id : String} {name : Str} {o e : Expr} {es : List Expr} {to : TE} {t : TA} {r : V → List V → Hp → VK → Prop} {apos cpos : Pos} (pa : PlainAttrs T) (slot : Slot T name id) (hty : typeOf (.builtin id) = pure (.type "method_descriptor")) (hm : MtR X id r) (ho : PE X o to) (ha : PA X (e :: es) t)
    (h : X.K = K := by rfl) (hbase : attributeBase o name X.env (eval o X.env) = eval o X.env := by rfl)
    (hfew : ((backTo cpos (starEach (e :: es) X.env)).all (fun x => !x.1) && (backToKw cpos (keywordEach [] X.env)).all (fun x => x.1.isSome)
      && decide ((e :: es).length + ([] : List Keyword).length + (if ([] : List Keyword).isEmpty then 0 else 1) < 30)) = true := by rfl)
    (hline : (apos.endLine == cpos.line) = true := by rfl) (hs : starEach (e :: es) X.env = (false, eval e X.env) :: starEach es X.env := by rfl) (hplain : (backTo cpos (starEach es X.env)).any (·.1) = false := by rfl) :
    PE X (.Call (.Attribute o name apos) (e :: es) [] cpos) (tBM K T r to t) := by subst h; exact pe_bm pa slot hty hm ho ha hbase hfew hline hs hplain
end
end Nv
set_option Elab.async false
set_option linter.all false
set_option maxRecDepth 100000
namespace Nv
open PySem PySem.Spec PyProof.Rows L2
open AutoSeq1 (wpAny_loadPart')
/-! ### enumerate(t), t a tuple -/
abbrev tupIt (t : Addr) : Obj := { cls := .type "tuple_iterator", data := .fields #[.ref t, .int 0 0] }
abbrev enumOb (i : Addr) : Obj := { cls := .type "enumerate", data := .fields #[.none, .bool false, .ref i, rawInt 0, .none, .none] }
theorem new_enumT (t : Addr) (xs : Array Value) (n : Nat) (dct : Option Addr) (sl : Array (Option Value)) :
    Meets (Builtin.«enumerate.__new__» ⟨[.type "enumerate", .ref t], []⟩) (fun _ R s => s.heap.get? t = some { cls := .type "tuple", dict := dct, data := .seq xs n, slots := sl } ∧
      R (.ok (.ret (.ref (s.heap.push (tupIt t)).objs.size))) { s with heap := (s.heap.push (tupIt t)).push (enumOb s.heap.objs.size) }) :=
  .of_wp fun prog w A R s h => by
    obtain ⟨hp, g, d, tk, os⟩ := s
    obtain ⟨ht, h⟩ := h
    have sub := sub_enumerate
    have hT : Heap.IsTuple (Shared.heap ⟨hp, g, d, tk, os⟩) t xs := ⟨_, ht, rfl, n, rfl⟩
    wp_walk using wpAny_loadPart' ht
    refine wpAny_stack_any fun st => wpAny_pure ?_
    split
    · rename_i c _ _ _ _ _
      cases (c == Value.type "enumerate")
      · wp_walk using wpAny_loadPart' ht, wpAny_pyIter_tuple hT
        exact ⟨_, rfl, h⟩
      · wp_walk using wpAny_loadPart' ht, wpAny_pyIter_tuple hT
        exact ⟨_, rfl, h⟩
    · wp_walk using wpAny_loadPart' ht, wpAny_pyIter_tuple hT
      exact ⟨_, rfl, h⟩
section
variable {prog : Program} {w : World} {A : Around} {E : Value → Shared → Prop} {s : Shared}
theorem call_enumT {t : Addr} {xs : Array Value} {Q : Value → Shared → Prop} (hT : s.heap.IsTuple t xs)
    (k : ∀ g, IsEnum g (s.heap.objs.size + 1) s.heap.objs.size 0 .none → g.IsTupleIter s.heap.objs.size t 0 → (∀ b o, s.heap.get? b = some o → g.get? b = some o) → Q (.ref (s.heap.objs.size + 1)) { s with heap := g }) :
    wpAny (model prog w) A (call (.type "enumerate") [.ref t]) Q E s := by
  obtain ⟨⟨c, dct, dt, sl⟩, ht, hc, n, hd⟩ := hT
  have hc2 : c = .type "tuple" := hc
  have hd2 : dt = .seq xs n := hd
  subst hc2 hd2
  refine callType_new F.called_enumerate (by decide) (F.typeCall_enumerate_1 _) (F.newCall_enumerate_1 _) (fun obj => F.args_object_init_2 obj _) F.entry_enumerate_new (new_enumT t xs n dct sl) ⟨ht, ?_⟩
  have sz : (s.heap.push (tupIt t)).objs.size = s.heap.objs.size + 1 := Heap.size_push ..
  have he := Heap.get?_push_size (s.heap.push (tupIt t)) (o := enumOb s.heap.objs.size) rfl
  rw [sz] at he
  show _ ∧ _
  rw [sz]
  exact ⟨⟨_, he, rfl⟩, k _ he ⟨_, Heap.get?_push_of_some _ (Heap.get?_push_size _ rfl), rfl, rfl⟩ fun b o x => Heap.get?_push_of_some _ (Heap.get?_push_of_some _ x)⟩
end
/-- the tuple at a, each item in a new pair with its number -/
def IteT (K : PySem.W.Frag) (a : Addr) : It :=
  ⟨fun i H => ∃ (xs : List V) (x : V), SqT K H a xs ∧ xs[i]? = some x, fun i H v H' => ∃ T x, v = .ref T ∧ H T = none ∧ H' = upd H T (.tup [.int (i : Nat), x]) ∧ ∀ xs, SqT K H a xs → xs[i]? = some x, fun i H => ∃ xs : List V, SqT K H a xs ∧ xs.length = i⟩
theorem turn_enumT {P : Program} {w : World} {K : PySem.W.Frag} {elts : List Expr} {kk : Nat} {tpos : Pos} (a e it : Addr) :
    Turn P w K (.Tuple elts kk tpos) (IteT K a) [e, it] e (fun i h => (∃ old, IsEnum h e it ((i : Nat) : Int) old) ∧ h.IsTupleIter it a i ∧ e ≠ it) where
  mem := by simp
  obj := fun i h st b hb => by
    obtain ⟨⟨old, he⟩, ⟨o, ho, hc, hd⟩, _⟩ := st
    rcases List.mem_cons.mp hb with z | z
    · rw [z]; exact ⟨_, he, fun v q => nomatch q⟩
    · rw [List.mem_singleton.mp z]; exact ⟨o, ho, fun v q => by rw [hd] at q; cases q⟩
  keep := fun i h h' st k => let ⟨⟨old, he⟩, hi, hne⟩ := st; ⟨⟨old, k e (by simp) _ he⟩, hi.at fun o q => k it (by simp) o q, hne⟩
  item := by
    intro X hP hw hK hc i pins s σ H E I hf st hg
    subst hP hw hK
    obtain ⟨⟨old, he⟩, hit, hne⟩ := st
    obtain ⟨xs, x, hq, hx⟩ := hg
    obtain ⟨its, rv, p, hz⟩ := I.tuple hq
    obtain ⟨u, hu, ru⟩ := rv.get hx
    have hel : e < s.heap.objs.size := Heap.lt_size he
    have hil : it < s.heap.objs.size := by obtain ⟨_, q, _⟩ := hit; exact Heap.lt_size q
    have hIT : s.heap.IsTuple a its.toArray := p
    have hail : a ≠ it := fun z => by
      obtain ⟨o, q1, q2, _⟩ := hit
      obtain ⟨o', q3, q4, _⟩ := hIT
      rw [z, q1] at q3
      cases q3
      rw [q2] at q4
      exact absurd q4 (by decide)
    have hae : e ∉ [it, a] := fun z => by
      rcases List.mem_cons.mp z with z | z
      · exact hne z
      · have z := List.mem_singleton.mp z
        obtain ⟨o', q3, q4, _⟩ := hIT
        have he' : s.heap.get? e = some _ := he
        rw [z, q3] at he'
        cases he'
        exact absurd q4 (show ¬ Value.type "enumerate" = Value.type "tuple" by decide)
    have D := Draws.tuple (prog := X.prog) (w := X.w) (A := X.A.in1) (I.ok.hd hc) it a hail its.toArray
    have hil2 : i < its.toArray.size := by
      have := (List.getElem?_eq_some_iff.mp hu).1
      simpa using this
    refine wpAny_pyNext_enum_itemD D he ⟨hit, hIT⟩ hil2 hne hae fun y g tk hy ho hst hT hsz hk => ?_
    have hyu : y = u := by
      have : its.toArray[i]? = some u := by simpa using hu
      rw [this] at hy
      exact (Option.some.inj hy).symm
    subst hyu
    refine ⟨_, rfl, wpAny_letOwnedTupleGo_enum (s := { s with heap := g, toks := tk + 1 }) ho fun g2 he' sb => ?_⟩
    have hT2 : g2.get? s.heap.objs.size = some { cls := .type "tuple", data := .seq #[.int i tk, y] } := (sb.2 _ (Nat.ne_of_gt hel)).trans hT
    have new : ObjOk X.prog X.w (upd H s.heap.objs.size (.tup [.int (i : Nat), x])) g2 s.heap.objs.size (.tup [.int (i : Nat), x]) :=
      ⟨by show 2 ≤ sizeLine; decide, [.int i tk, y], .cons ⟨_, rfl⟩ (.cons ru .nil), ⟨_, hT2, rfl, _, rfl⟩⟩
    have I1 : Inv X pins σ (upd H s.heap.objs.size (.tup [.int (i : Nat), x])) { s with heap := g2, toks := tk + 1 } :=
      I.turnedNew (ch := [e, it]) (fun b ob hb q => (sb.2 b (fun z => hb (by simp [z]))).trans (hk b ob (fun z => hb (by simp [z])) (fun z => hb (by simp [z])) q)) hf (Nat.le_refl _) new
    refine ⟨.ref s.heap.objs.size, _, I1, rfl, ⟨_, x, rfl, I.hok.fresh (Nat.le_refl _), rfl, fun ys hy => by rw [I.tuple_inj hy hq]; exact hx⟩, ⟨⟨y, ?_⟩, hst.1.at fun o q => (sb.2 it (Ne.symm hne)).trans q, hne⟩, fun b hb => ?_⟩
    · have e1 : ((i + 1 : Nat) : Int) = (i : Int) + 1 := by omega
      rw [e1]
      exact he'
    · have hb' : b < s.heap.objs.size := by
        rcases List.mem_cons.mp hb with z | z
        · rw [z]; exact hel
        · rw [List.mem_singleton.mp z]; exact hil
      rw [upd_ne (Nat.ne_of_lt hb')]
      exact (hf b hb).1
  done := by
    intro X hP hw hK hc i pins s σ H E I hf st hg
    subst hP hw hK
    obtain ⟨⟨old, he⟩, hit, hne⟩ := st
    obtain ⟨xs, hq, hx⟩ := hg
    obtain ⟨its, rv, p, hz⟩ := I.tuple hq
    have hIT : s.heap.IsTuple a its.toArray := p
    have hail : a ≠ it := fun z => by
      obtain ⟨o, q1, q2, _⟩ := hit
      obtain ⟨o', q3, q4, _⟩ := hIT
      rw [z, q1] at q3
      cases q3
      rw [q2] at q4
      exact absurd q4 (by decide)
    obtain ⟨f0, f1, f2, f3, f4, f5⟩ := hf it (by simp)
    have hl := rv.length
    have D := Draws.tuple (prog := X.prog) (w := X.w) (A := X.A.in1) (I.ok.hd hc) it a hail its.toArray
    have ei : i = its.toArray.size := by simp; omega
    rw [ei] at hit
    exact wpAny_pyNext_enum_endD D he ⟨hit, hIT⟩ fun g eb => ⟨rfl, I.turned (t' := s.toks) (fun b o hb q => eb b o hb q) f0 f1 f3 f4 f5⟩
  self := fun A i s Q E st h => let ⟨⟨_, he⟩, _⟩ := st; wpAny_pyIter_enum he h
def iEnumT (K : PySem.W.Frag) (ta : TA) : TI := fun σ H R => ta σ H fun vs H1 => ∃ a xs, vs = [.ref a] ∧ SqT K H1 a xs ∧ R (IteT K a) H1
theorem pi_enumT {X : Cx} {e : Expr} {ta : TA} {p pos tpos : Pos} {elts : List Expr} {kk : Nat} (hg : Gl X "enumerate") (hm : X.mg "enumerate" = none) (ha : PA X [e] ta) (hs : starEach [e] X.env = [(false, eval e X.env)] := by rfl) :
    PI X (.Tuple elts kk tpos) (.Call (.Name "enumerate" p) [e] [] pos) (iEnumT X.K ta) := by
  refine ⟨fun pins s σ H R I h => Call_ (ld_blt I hg hm boot_enumerate (PyProof.Rows.callWith_type1 (thn (ha.run pos pins s σ H _ I h) fun us s1 ⟨vs, H1, I1, r1, q1⟩ => ?_) hs rfl))⟩
  obtain ⟨a, xs, rfl, hq, q⟩ := q1
  obtain ⟨u, rfl, rx⟩ := vals1 r1
  cases rx
  obtain ⟨its, rv, p', hz⟩ := I1.tuple hq
  refine call_enumT (xs := its.toArray) p' fun g he hit hk => wpAny_pyIter_enum he ?_
  have I2 : Inv X pins σ H1 { s1 with heap := g } := I1.kept (t' := s1.toks) hk
  refine ⟨s1.heap.objs.size + 1, [s1.heap.objs.size + 1, s1.heap.objs.size], _, _, H1, rfl, I2, turn_enumT a (s1.heap.objs.size + 1) s1.heap.objs.size, ⟨⟨.none, he⟩, hit, Nat.succ_ne_self _⟩, fun b hb => ?_, q⟩
  have hle : s1.heap.objs.size ≤ b := by
    rcases List.mem_cons.mp hb with z | z
    · rw [z]; exact Nat.le_add_right _ _
    · rw [List.mem_singleton.mp z]; exact Nat.le_refl _
  exact I1.fpOk hle (I1.hok.fresh hle)
theorem walk_enumT {K : PySem.W.Frag} {a : Addr} {xs : List V} : Walk (IteT K a) xs.length (fun H => SqT K H a xs) (YPair (fun i => some (.int (i : Nat))) (fun i => xs[i]?)) where
  goes := fun i H hi h => ⟨xs, xs[i], h, List.getElem?_eq_getElem hi⟩
  stops := fun H h => ⟨xs, h, rfl⟩
  yields := fun i H x H' _ h y => by
    obtain ⟨T, z, e1, e2, e3, e4⟩ := y
    exact ⟨T, .int (i : Nat), z, e1, e2, e3, rfl, e4 xs h⟩
end Nv
set_option Elab.async false
set_option linter.all false
set_option maxRecDepth 100000
/-! several clauses 'except X as n', all of one name n (slot i) -/
namespace Nv
open PySem PySem.Spec PyProof.Rows L2
abbrev Cl := Value × (Addr → Value → Option Addr → TS)
/-- behind the suite the slot is empty -/
abbrev dropS (i : Nat) (D : Ends) : Ends := { nx := fun σ H => D.nx (σ.set i none) H, rt := D.rt, bk := fun σ H => D.bk (σ.set i none) H, ct := fun σ H => D.ct (σ.set i none) H }
def wAll (K : PySem.W.Frag) (Wout : WX) (D : Ends) (i : Nat) : List Cl → WX
  | [] => Wout
  | p :: r => fun cls d σ H => ∃ yes, PySem.W.exmOne K cls p.1 = some yes ∧ (yes = true → ∀ a, H a = none → p.2 a cls d (dropS i D) (σ.set i (some (.ref a))) H) ∧ (yes = false → wAll K Wout D i r cls d σ H)
/-- the clauses, each with its suite's reading -/
inductive Cls (X : Cx) (n : Str) : List ExceptHandler → List Cl → Prop
  | none : Cls X n [] []
  | one {x : Str} {c : Value} {ts : Addr → Value → Option Addr → TS} {st : Stmt} {more : List Stmt} {np hp : Pos} {hs : List ExceptHandler} {l : List Cl} (nm : Names X x c)
      (su : ∀ (a : Addr) (oe : Obj) (cls : Value) (d : Option Addr) (pn : List (Addr × Obj)), Zc cls d oe → (∃ vs, oe.data = .fields vs) → PSs (X.suite a ((a, oe) :: pn)) (st :: more) (ts a cls d)) (rest : Cls X n hs l) :
      Cls X n (.ExceptHandler (some (.Name x np)) (some n) (st :: more) hp :: hs) ((c, ts) :: l)
section
variable {X : Cx} {n : Str} {i : Nat} {Wout : WX} {D : Ends} {pins : List (Addr × Obj)} {σ : L2.St} {H : Hp} {B : Heap} {a : Addr} {cls : Value} {d : Option Addr}
/-- the clauses looked at one after the other; the exception at a flies over this frame in the heap h3 -/
theorem clauses_run (hf : X.env.frame = some X.env.locals) (hN : X.N.Nodup) (hi : X.N[i]? = some n) (hln : X.env.kindOf n = some .local) (tk : Takes X Wout) {s' : Shared} {h3 : Heap} (ok : X.Ok)
    (na : H a = none) (nL : a ≠ X.env.locals) (nF : a ∉ X.fs) (here : Inv X pins σ H { s' with heap := h3 })
    (land : ∀ h4, HandSPX.FlyingZ B (X.env :: X.outer) a (Zc cls d) h4 → h3.UpToSlots h4 → Inv X pins σ H { s' with heap := h4 }) (fly : HandSPX.FlyingZ B (X.env :: X.outer) a (Zc cls d) h3)
    (out : Wout cls d σ H → ∀ h4, HandSPX.HeldZ B (X.env :: X.outer) a (Zc cls d) X.env.locals h4 → h3.UpToSlots h4 → XE X Wout (.ref a) { s' with heap := h4 }) :
    ∀ {hds : List ExceptHandler} {l : List Cl}, Cls X n hds l → wAll X.K Wout D i l cls d σ H → wpAny (model X.prog X.w) X.A (handleBy (.ref a) X.env hds) (SP X pins D) X.xe { s' with heap := h3 } := by
  intro hds l hc
  obtain ⟨oe, vs, he, hz, hd⟩ := fly.there
  induction hc with
  | none =>
    intro w
    obtain ⟨_, _, _, _, vs2, T, _, _, he2, _, hd2, h1, _⟩ := id fly
    refine wpAny_handleBy_nil ?_
    unfold PySem.passOn
    refine wpAny_bind (wpAny_field he2 hd2 h1 ?_)
    rw [if_neg (by simp)]
    have leave : wpAny (model X.prog X.w) X.A (setFlight (.ref a) X.env.frame) (fun _ s4 => wpAny (model X.prog X.w) X.A (throw (.ref a) : Sem Flow) (SP X pins D) X.xe s4) X.xe { s' with heap := h3 } := by
      rw [hf]
      exact HandSPX.setFlight_upZ fly fun h4 held up4 => wpAny_throw (tk _ _ (out w h4 held up4))
    first
      | exact wpAny_bind leave
      | exact wpAny_bind (wpAny_pure (wpAny_bind leave))
  | @one x c ts st more np hp hs l nm su rest ih =>
    rintro ⟨yes, hy, w1, w2⟩
    have S3 := here.suite he hd na nL nF
    have cl : PySem.W.Looks (model X.prog X.w) h3 (typeOf (.ref a)) cls := fun A Q E s k q => wpAny_typeOf_ref (k _ _ he) (by rw [hz.1]; exact q)
    refine wpAny_handleBy_cons (codeAny_handlers_test ?_) (fun q => by cases q)
    have named : ∀ {Q E : Value → Shared → Prop}, Q c { s' with heap := h3 } → wpAny (model X.prog X.w) (X.A.mark (some (.ref a))) (eval (.Name x np) X.env) Q E { s' with heap := h3 } := fun {Q E} q => by
      obtain ⟨hg, hdb, hm | ⟨hm, hv, hn⟩⟩ := nm
      · exact ld_glob (X := X.suite a ((a, oe) :: (X.pn ++ pins))) S3 hg hm q hdb
      · exact ld_blt (X := X.suite a ((a, oe) :: (X.pn ++ pins))) S3 hg hm hv q hn hdb
    refine named ((PySem.W.exm_one (M := model X.prog X.w) here.kIn cl hy).here ?_)
    cases yes with
    | false => exact ih (w2 rfl)
    | true =>
      refine codeAny_handlers_suite_as (HandSPX.lands_againZ fly fun h4 fly4 up4 => ?_)
      have J4 := land h4 fly4 up4
      obtain ⟨oe4, vs4, he4, hz4, hd4⟩ := fly4.there
      refine store_ok (X := X.suite a ((a, oe4) :: (X.pn ++ pins))) (v := .ref a) (J4.suite he4 hd4 na nL nF) hN hi (.inl hln) rfl (fun s5 S5 => ?_) (.inr hln)
      have after : ∀ {s6 : Shared} {σ6 : L2.St} {H6 : Hp} {R : Shared → Prop}, Inv (X.suite a ((a, oe4) :: (X.pn ++ pins))) [] σ6 H6 s6 → (∀ s7, Inv X pins (σ6.set i none) H6 s7 → R s7) →
          wpAny (model X.prog X.w) X.A (do bindName X.env n .none; unbindBehindTheSuite X.env n hp) (fun _ s7 => R s7) X.xe s6 := fun {s6 σ6 H6 R} S6 hq => gone_ok (S6.unsuite ok) hN hi hln hq
      refine wpAny_mono ((su a oe4 cls d (X.pn ++ pins) hz4 ⟨_, hd4⟩).run [] s5 _ H _ S5 (w1 rfl a na)) (fun fl s6 hsp => ?_) (fun _ _ z => False.elim z)
      cases fl with
      | ret u =>
        obtain ⟨v, σ6, H6, S6, r, q⟩ := hsp
        exact after S6 fun s7 J7 => ⟨_, _, _, J7, r, q⟩
      | next =>
        obtain ⟨σ6, H6, S6, q⟩ := hsp
        exact after S6 fun s7 J7 => ⟨_, _, J7, q⟩
      | brk =>
        obtain ⟨σ6, H6, S6, q⟩ := hsp
        exact after S6 fun s7 J7 => ⟨_, _, J7, q⟩
      | cont =>
        obtain ⟨σ6, H6, S6, q⟩ := hsp
        exact after S6 fun s7 J7 => ⟨_, _, J7, q⟩
end
section
variable {X : Cx} {n : Str} {i : Nat} {body : List Stmt} {hd0 : ExceptHandler} {hds : List ExceptHandler} {l : List Cl} {pos : Pos} {tb : WX → TS} {Wout : WX}
theorem ps_try_all (hs : X.stack = X.env :: X.outer) (hf : X.env.frame = some X.env.locals) (hN : X.N.Nodup) (hi : X.N[i]? = some n) (hln : X.env.kindOf n = some .local) (tk : Takes X Wout)
    (hb : ∀ (W : WX) (pn : List (Addr × Obj)) (xe : Value → Shared → Prop), Takes (X.tr pn xe) W → PassesOwn (model X.prog X.w) X.A X.env xe → PSs (X.tr pn xe) body (tb W)) (hc : Cls X n (hd0 :: hds) l) :
    PS X (.Try body (hd0 :: hds) [] [] pos) (fun D σ H => tb (wAll X.K Wout D i l) D σ H) := by
  refine ⟨fun pins s σ H D I h => wpAny_Try_except ?_⟩
  have ok := I.ok
  have hfr : X.A.frames = some (X.env :: X.outer) := by rw [ok.frames, hs]
  have run := (hb (wAll X.K Wout D i l) (X.pn ++ pins) (fun e s₁ => wpAny (model X.prog X.w) X.A (noteFrame e X.env) (fun _ s₂ => wpAny (model X.prog X.w) X.A (setFlight e none) (fun _ s₃ => wpAny (model X.prog X.w) X.A (handleBy e X.env (hd0 :: hds)) (SP X pins D) X.xe s₃) X.xe s₂) X.xe s₁)
    (fun u s' xx => ?_) PassesOwn.looking).run [] s σ H D (I.toTry _) h
  · refine wpAny_mono run (fun fl s1 hsp => ?_) (fun e s1 he => he)
    cases fl with
    | ret u =>
      obtain ⟨v, σ', H', J, r, q⟩ := hsp
      exact ⟨v, σ', H', J.ofTry ok, r, q⟩
    | next =>
      obtain ⟨σ', H', J, q⟩ := hsp
      exact wpAny_execs_nil ⟨σ', H', J.ofTry ok, q⟩
    | brk =>
      obtain ⟨σ', H', J, q⟩ := hsp
      exact ⟨σ', H', J.ofTry ok, q⟩
    | cont =>
      obtain ⟨σ', H', J, q⟩ := hsp
      exact ⟨σ', H', J.ofTry ok, q⟩
  · obtain ⟨a, B, sI, _, σ', H', cls, d, rfl, J', nb, up, sky, na, os, ag, w⟩ := xx
    have J : Inv X pins σ' H' sI := J'.ofTry ok
    have sky' : Sky B (X.env :: X.outer) a (Zc cls d) X.env.locals s'.heap := by rw [← hs]; exact sky
    show wpAny (model X.prog X.w) X.A (noteFrame (.ref a) X.env) _ _ _
    refine Sky.land Zc.steady hfr hf sky' fun h3 fly up3 => ?_
    have land : ∀ h4, HandSPX.FlyingZ B (X.env :: X.outer) a (Zc cls d) h4 → h3.UpToSlots h4 → Inv X pins σ' H' { s' with heap := h4 } := fun h4 f4 u4 => J.landed nb f4.1 ((up.trans up3).trans u4) os ag
    have here : Inv X pins σ' H' { s' with heap := h3 } := J.landed nb fly.1 (up.trans up3) os ag
    obtain ⟨oe, vs, he, hz, hd⟩ := fly.there
    have nfr : a ∉ frs (X.env :: X.outer) := fun hm => by
      obtain ⟨_, o', e', no⟩ := fly.2.2.1.mem hm
      rw [he] at e'
      cases e'
      exact no _ hd
    have nL : a ≠ X.env.locals := fun z => nfr (List.mem_filterMap.mpr ⟨X.env, List.mem_cons_self, by rw [hf, z]⟩)
    have nF : a ∉ X.fs := fun hm => by
      obtain ⟨e, h1, h2⟩ := List.mem_filterMap.mp hm
      exact nfr (List.mem_filterMap.mpr ⟨e, List.mem_cons_of_mem _ h1, h2⟩)
    refine clauses_run hf hN hi hln tk ok na nL nF here land fly (fun wo h4 held u4 => ?_) hc w
    exact ⟨a, B, sI, pins, σ', H', cls, d, rfl, J, nb, (up.trans up3).trans u4, .inr (.inr (by rw [hs]; exact held)), na, os, ag, wo⟩
end
end Nv
set_option Elab.async false
set_option linter.all false
set_option maxRecDepth 100000
/-! own exceptions with two fields: what, and kind, the name of their class -/
namespace Nv
open PySem PySem.Spec PyProof.Rows L2
/-- what an exception tells of its class C and of the class's name -/
structure ExcN (K : PySem.W.Frag) (C : Addr) (nm : Str) : Prop where
  ga : PySem.W.findIn K (.ref C) "__getattribute__" = some (some (.builtin "BaseException.__getattribute__"))
  gg : PySem.W.findIn K (.ref C) "__getattr__" = some none
  exC : PySem.W.subIn K (.ref C) (.type "BaseException") = some true
  isc : PySem.W.isClsIn K C = true
  ca : PySem.W.findIn K (.ref C) "__class__" = some (some (.builtin "object.__class__"))
  cn : PySem.W.specialIn K (.builtin "object.__class__") "__get__" = some (some (.builtin "getset_descriptor.__get__"))
  ct : PySem.W.takesIn K (.builtin "object.__class__") = some true
  cm : PySem.W.mroIn K C (.type "object") = some true
  rd : PySem.W.readsIn K C (.type "type") = true
  fn : PySem.W.findCls K (.ref C) (.type "type") "__name__" = some (.get (.builtin "getset_descriptor.__get__") (.builtin "type.__name__") (.ref C) (.type "type"))
  sl : ∃ c d dt sl tk, K.lookup C = some ⟨c, d, dt, sl⟩ ∧ sl[2]? = some (some (.str nm tk))
  nk : PySem.W.findIn K (.ref C) "kind" = some none
section
open PySem.Calls Builtin.Getset_descriptor
variable {prog : Program} {w : World} {A : Around} {E : Value → Shared → Prop} {s : Shared} {K : PySem.W.Frag} {x D : Addr} {ox : Obj} {od : Option Obj} {nm : Str}
theorem exc_cls {expr : Bool} {Q : Value → Shared → Prop} (N : ExcN K D nm) (hf : PySem.W.findObj K D od "__class__" = some (.bind (.builtin "getset_descriptor.__get__") (.builtin "object.__class__")))
    (X : K.In s.heap) (I : PySem.W.InstAt s.heap x ox D od) (h : Q (.ref D) { s with toks := s.toks + 1 }) : wpAny (model prog w) A (getAttr (.ref x) "__class__" expr) Q E s := by
  obtain ⟨hp, g, d, t, os⟩ := s
  have L0 := I.type (M := model prog w)
  have L1 := PySem.W.looks_findIn (M := model prog w) X N.ga
  have L2 := PySem.W.looks_findIn (M := model prog w) X N.gg
  have L3 := PySem.W.looks_find (M := model prog w) X I hf
  have sub : PySem.W.Looks (model prog w) hp (isInstance (.ref x) (.type "BaseException")) true := L0.andThen (PySem.W.looks_subIn X N.exC)
  have hx0 : (expr && onTheHeap (Value.builtin "BaseException.__getattribute__")) = false := by cases expr <;> rfl
  have hx2 : (Value.builtin "BaseException.__getattribute__" == Value.builtin "object.__getattribute__") = false := by decide +kernel
  have hx1 : (onTheHeap (Value.ref D) && Value.builtin "BaseException.__getattribute__" == Value.builtin "object.__getattribute__") = false := by rw [hx2]; rfl
  unfold getAttr getAttrBy
  refine wpAny_bind (wpAny_mkText (wpAny_holding (wpAny_bind (L0.at (wpAny_bind (L1.at ?_))))))
  show wpAny _ _ (if (onTheHeap (Value.ref D) && Value.builtin "BaseException.__getattribute__" == Value.builtin "object.__getattribute__") = true then _ else _) _ _ _
  rw [hx1, if_neg Bool.false_ne_true]
  unfold getAttrByItsOwn hookBefore
  refine wpAny_bind ?_
  rw [if_pos (show onTheHeap (Value.ref D) = true from rfl)]
  refine L2.at ?_
  refine wpAny_bind (wpAny_attempt (wpAny_holding ?_))
  unfold callGetattribute
  rw [hx0, if_neg Bool.false_ne_true]
  unfold boundAndCalled
  rw [PySem.F.excAttr_ValueError.ga.bind (.ref x)]
  refine wpAny_bind (wpAny_pure ?_)
  show wpAny _ _ (call (.builtin "BaseException.__getattribute__") [.ref x, .str "__class__" t]) _ _ _
  refine wpAny_call (codeAny_call_builtin PySem.F.excAttr_ValueError.ga.plain PySem.F.entry_bexc_ga ?_)
  refine @PySem.W.check_slot (model prog w) _ _ ⟨hp, g, d, t + 1, os⟩ "BaseException.__getattribute__" "BaseException" "__getattribute__" (.ref x) [.str "__class__" t] [] _ (by decide +kernel) (by decide +kernel) sub (PySem.F.args_bexc_ga (.ref x) (.str "__class__" t)) ?_
  unfold Builtin.«object.__getattribute__»
  refine wpAny_bind (wpAny_of_eq (a := ((Value.ref x : Value), [Value.str "__class__" t])) (by first | rfl | (simp only [slotArgs]; rfl)) ?_)
  refine wpAny_bind (wpAny_pure (wpAny_bind (L0.at (wpAny_bind (L3.at ?_)))))
  show wpAny _ _ (holding [Value.builtin "object.__class__"] (call (.builtin "getset_descriptor.__get__") [.builtin "object.__class__", .ref x, .ref D]) >>= ret) _ _ _
  refine wpAny_bind (wpAny_holding (wpAny_call (PySem.W.class_get (s := ⟨hp, g, d, t + 1, os⟩) (ox := ox) (od := od) X I N.cm ?_)))
  refine wpAny_pure ?_
  show wpAny _ _ (handedOut (.ref D)) _ _ _
  rw [PySem.W.handedOut_of (v := .ref D) rfl]
  first
    | exact wpAny_pure (wpAny_pure h)
    | exact wpAny_pure h
    | exact wpAny_pure (wpAny_bind (wpAny_pure (wpAny_pure h)))
theorem cname_get {tp v : Value} {R : Result → Shared → Prop} (X : K.In s.heap) (ht : PySem.W.typeIn K (.ref D) = some (.type "type")) {c : Value} {dd : Option Addr} {dt : Data} {sl : Array (Option Value)} (hC : K.lookup D = some ⟨c, dd, dt, sl⟩) (hs : sl[2]? = some (some v))
    (h : R (.ok (.ret v)) s) : codeAny (model prog w) A (.call (.builtin "getset_descriptor.__get__") ⟨[.builtin "type.__name__", .ref D, tp], []⟩) R s := by
  obtain ⟨hh, g, dr, t, os⟩ := s
  have L0 : PySem.W.Looks (model prog w) hh (typeOf (.ref D)) (.type "type") := PySem.W.looks_typeIn X ht
  have L1 : PySem.W.Looks (model prog w) hh (isSubtype (.type "type") (.type "type")) true := PySem.W.Looks.of_pure (by rw [isSubtype_type]; kernel_rfl)
  have ho := X _ _ hC
  dsimp only at ho
  refine codeAny_call_builtin PySem.W.KF.slot_gs.plain PySem.W.KF.entry_gs (PySem.W.KF.slot_gs.check _ _ _ _ _ _ _ _ PySem.W.ktyn_type (PySem.W.KF.args_gs _ _ _) ?_)
  unfold Builtin.«getset_descriptor.__get__» descrGet
  rw [PySem.W.dga_obj]
  refine wpAny_bind (wpAny_pure ?_)
  unfold descrGetter descrCheckInstance descrNameAndClass isInstance
  simp only [PySem.W.ktyn_owner]
  repeat lk
  refine ⟨Code.quiet_builtin _ (by decide +kernel), codeAny_builtin PySem.W.ktyn_entry ?_⟩
  unfold Builtin.«type.__name__»
  dsimp only
  unfold Builtin.keptObject PySem.slotAt
  dsimp only
  refine wpAny_bind (wpAny_bind (wpAny_loadPart_at ho (wpAny_pure ?_)))
  dsimp only
  rw [hs]
  exact wpAny_pure h
theorem exc_name {expr : Bool} {Q : Value → Shared → Prop} (N : ExcN K D nm) (X : K.In s.heap) (h : ∀ tk, Q (.str nm tk) { s with toks := s.toks + 1 }) : wpAny (model prog w) A (getAttr (.ref D) "__name__" expr) Q E s := by
  obtain ⟨c, dd, dt, sl, tk, hC, hs⟩ := N.sl
  have rd := N.rd
  simp only [PySem.W.readsIn, Bool.and_eq_true, beq_iff_eq] at rd
  refine PySem.W.cls_read X N.rd N.fn ?_
  show wpAny _ _ (do ret (← holding [Value.builtin "type.__name__"] (call (.builtin "getset_descriptor.__get__") [.builtin "type.__name__", .ref D, .type "type"]))) _ _ _
  refine wpAny_bind (wpAny_holding (wpAny_call (cname_get (s := { s with toks := s.toks + 1 }) X rd.1.1.1.2 hC hs ?_)))
  exact wpAny_pure (PySem.W.handed_on rfl (h _))
end
/-- e.__class__.__name__, e an exception that is being made -/
def tKind (K : PySem.W.Frag) (te : TE) : TE := fun σ H Q => te σ H fun x H1 => ∃ (a C dx : Addr) (fs : List (Str × V)) (nm : Str), x = .ref a ∧ H1 a = some (exo a C (some dx)) ∧ H1 dx = some (exd dx fs) ∧ ExcN K C nm ∧ Q (.str nm) H1
theorem pe_kind {X : Cx} {e : Expr} {te : TE} {p pos : Pos} (he : PE X e te) (hb : attributeBase e "__class__" X.env (eval e X.env) = eval e X.env := by rfl)
    (hb2 : attributeBase (.Attribute e "__class__" p) "__name__" X.env (eval (.Attribute e "__class__" p) X.env) = eval (.Attribute e "__class__" p) X.env := by rfl) : PE X (.Attribute (.Attribute e "__class__" p) "__name__" pos) (tKind X.K te) := by
  refine ⟨fun pins s σ H Q I h => attr_of hb2 (attr_of hb (thn (he.run pins s σ H _ I h) ?_))⟩
  rintro u s1 ⟨x, H1, I1, rx, a, C, dx, fs, nm, rfl, ea, ed, N, q⟩
  obtain rfl : u = Value.ref a := rx
  obtain ⟨t1, ho⟩ := exo_at I1.hok ea
  obtain ⟨mA, ⟨od, es, ep, ho2, hr⟩, rel⟩ := exd_at I1.hok ed
  have J : PySem.W.InstAt s1.heap a { cls := .ref C, dict := some dx, data := .fields #[.ref t1, .none, .none, .none, .bool false, .none] } C (some od) := ⟨ho, rfl, rfl, ho2⟩
  refine exc_cls N (PySem.W.findObj_data N.isc N.ca N.cn N.ct) I1.kIn J ?_
  refine exc_name (s := { s1 with toks := s1.toks + 1 }) N I1.kIn fun tk => ?_
  exact ⟨.str nm, H1, (I1.tok _).tok _, ⟨tk, rfl⟩, q⟩
/-- a class of the program's exceptions, with the __init__ at fI -/
structure ExcC (K : PySem.W.Frag) (mg : Str → Option Value) (name : Str) (fI : Addr) where
  C : Addr
  g : mg name = some (.ref C)
  o : OexC K C
  i : PySem.W.findIn K (.ref C) "__init__" = some (some (.ref fI))
  ga : PySem.W.findIn K (.ref C) "__getattribute__" = some (some (.builtin "BaseException.__getattribute__"))
  gg : PySem.W.findIn K (.ref C) "__getattr__" = some none
  no : PySem.W.findIn K (.ref C) "what" = some none
  nn : ExcN K C name
  hd : PySem.W.hasDictIn K C = true
  isc : PySem.W.isClsIn K C = true
/-- does 'except B' take an exception of the class A -/
theorem exm_is {K : PySem.W.Frag} {mg : Str → Option Value} {nA nB : Str} {fA fB : Addr} (A : ExcC K mg nA fA) (B : ExcC K mg nB fB) {b : Bool} (h : PySem.W.subIn K (.ref A.C) (.ref B.C) = some b) : PySem.W.exmOne K (.ref A.C) (.ref B.C) = some b := by
  have h1 : (PySem.W.subIn K (.ref B.C) (.type "BaseException") == some true) = true := by rw [B.o.exC] <;> rfl
  have h2 : ((PySem.W.clsIn K B.C).isSome && PySem.W.typeIn K (.ref B.C) == some (.type "type")) = true := by
    have e : (PySem.W.clsIn K B.C).isSome = true := B.isc
    rw [e, B.o.tyC] <;> rfl
  unfold PySem.W.exmOne
  rw [if_pos h1]
  show (if ((PySem.W.clsIn K B.C).isSome && PySem.W.typeIn K (.ref B.C) == some (.type "type")) = true then PySem.W.subIn K (.ref A.C) (.ref B.C) else none) = some b
  rw [if_pos h2]
  exact h
/-- __init__(self, what) -/
def sp_init (K : PySem.W.Frag) : Sp := fun vs H Q _ => ∃ (a C : Addr) (y : V) (nm : Str), vs = [.ref a, y] ∧ H a = some (exo a C none) ∧ OexC K C ∧ PySem.W.findIn K (.ref C) "what" = some none ∧ ExcN K C nm ∧
  ∀ dx, H dx = none → dx ≠ a → Q .non (upd (upd H dx (exd dx [("kind", .str nm), ("what", y)])) a (exo a C (some dx)))
abbrev xdW (nm : Str) (y : V) : HO := .xd [(("kind" : Str), V.str nm), (("what" : Str), y)]
/-- at dx: the dict of an exception of the program, its what is y -/
def XdAt (H : Hp) (dx : Addr) (y : V) : Prop := ∃ nm, H dx = some (xdW nm y)
/-- X(e) -/
def tMkX (C : Addr) (nm : Str) (te : TE) : L2.St → Hp → XK → Prop := fun σ H Q => te σ H fun y H1 => ∀ d, H1 d = none → Q (.ref C) (some d) (upd H1 d (xdW nm y))
/-- a word between an expression and what follows -/
def tMd (t : TE) : TE := fun σ H Q => ∃ M : VK, t σ H M ∧ ∀ v H', M v H' → Q v H'
theorem pe_md {X : Cx} {e : Expr} {t : TE} (h : PE X e t) : PE X e (tMd t) := ⟨fun pins s σ H Q I ⟨M, h1, h2⟩ => thn (h.run pins s σ H M I h1) fun u s' ⟨v, H', I', r, m⟩ => ⟨v, H', I', r, h2 v H' m⟩⟩
section
variable {X : Cx} {name : Str} {fI : Addr} {k : Nat} {fd : FuncData} {e : Expr} {te : TE} {p pos : Pos}
theorem pmk_X (D : ExcC X.K X.mg name fI) (tI : PySem.W.typeIn X.K (.ref fI) = some (.type "function")) (F : FnOk X.prog X.w X.K X.mg X.base CX0 k fI fd ["self", "what"] (sp_init X.K)) (hr : Room (k + 1) X.A) (hb : Binds X.K fd ["self", "what"] []) (hg : Gl X name)
    (he : PE X e te) (hdb : (name == ("__debug__" : Str)) = false := by decide) (hs : starEach (e :: []) X.env = (false, eval e X.env) :: starEach [] X.env := by rfl) (hpl : (backTo pos (starEach [] X.env)).any (·.1) = false := by rfl) :
    PMk X (.Call (.Name name p) [e] [] pos) (tMkX D.C name te) := by
  intro pins s σ H Q I h
  refine pmk_oex (ta := tCons (tMd te) tNil) D.o D.i tI F hr hb (.nil : Vals [] []) pass0 hg D.g (pa_cons (pe_md he) pa_nil hs) hdb hs hpl pins s σ H Q I ?_
  refine ⟨_, h, fun y H1 hy => ⟨(by show 1 ≤ 1000; decide), fun a na => ⟨a, D.C, y, name, rfl, upd_same, D.o, D.no, D.nn, fun dx nd ne => ?_⟩⟩⟩
  have nd1 : H1 dx = none := by rw [← nd, upd_ne ne]
  refine ⟨rfl, dx, [(("kind" : Str), V.str name), (("what" : Str), y)], upd_same, ?_, nd1, ?_⟩
  · rw [upd_ne ne, upd_same]
  · have e : upd (del (upd (upd (upd H1 a (exo a D.C none)) dx (exd dx [("kind", .str name), ("what", y)])) a (exo a D.C (some dx))) a) dx (xdW name y) = upd H1 dx (xdW name y) := by
      funext b
      by_cases h1 : b = dx
      · rw [h1, upd_same, upd_same]
      · rw [upd_ne h1, upd_ne h1]
        by_cases h2 : b = a
        · rw [h2, del_same, na]
        · rw [del_ne h2, upd_ne h2, upd_ne h1, upd_ne h2]
    rw [e]
    exact hy dx nd1
/-- e.what, e the exception that the suite holds at a -/
def tWhat (C a : Addr) (cls : Value) (d : Option Addr) (te : TE) : TE := fun σ H Q => te σ H fun x H1 => x = .ref a ∧ cls = .ref C ∧ ∃ (dd : Addr) (y : V), d = some dd ∧ XdAt H1 dd y ∧ Q y H1
theorem pe_what {a : Addr} {oe : Obj} {cls : Value} {d : Option Addr} {pn : List (Addr × Obj)} (D : ExcC X.K X.mg name fI) (hz : Zc cls d oe) (hf : ∃ vs, oe.data = .fields vs) (he : PE (X.suite a ((a, oe) :: pn)) e te)
    (hb : attributeBase e "what" X.env (eval e X.env) = eval e X.env := by rfl) : PE (X.suite a ((a, oe) :: pn)) (.Attribute e "what" pos) (tWhat D.C a cls d te) := by
  refine ⟨fun pins s σ H Q I h => attr_of hb (thn (he.run pins s σ H _ I h) ?_)⟩
  rintro u s1 ⟨x, H1, I1, rx, rfl, rfl, dd, y, rfl, ⟨nm, ea⟩, q⟩
  obtain rfl : u = Value.ref a := rx
  obtain ⟨ha, _⟩ := I1.pin (a, oe) (List.mem_append_left _ List.mem_cons_self)
  obtain ⟨vs, hd⟩ := hf
  obtain ⟨mA, hns, hr⟩ : ObjOk X.prog X.w H1 s1.heap dd (xdW nm y) := I1.hok dd _ ea
  obtain ⟨od, ho, hl⟩ := lookIn_ns hns
  have l : List.lookup ("what" : Str) [(("kind" : Str), V.str nm), (("what" : Str), y)] = some y := by
    rw [lookup_put, if_neg (by decide +kernel), lookup_put, if_pos rfl]
  obtain ⟨u, hu, ru⟩ := RelO.some_of (v := y) (o := mA "what") (by rw [← l]; exact hr "what")
  have J : PySem.W.InstAt s1.heap a oe D.C (some od) := ⟨ha, hz.1, by unfold PySem.W.notCls; rw [hd] <;> rfl, by rw [hz.2]; exact ho⟩
  exact HandSPX.exc_get I1.kIn J D.ga D.gg D.o.exC (PySem.W.findObj_own D.hd D.no rfl (by rw [hl, hu])) (handed_of ru) ⟨y, H1, I1.tok _, ru, q⟩
end
end Nv
set_option Elab.async false
set_option linter.all false
set_option maxRecDepth 100000
/-! several clauses, with a name (slot i) or without; isinstance of the caught error -/
namespace Nv
open PySem PySem.Spec PyProof.Rows L2
def wAll2 (K : PySem.W.Frag) (Wout : WX) (D : Ends) (i : Nat) : List (Bool × Cl) → WX
  | [] => Wout
  | (true, p) :: r => fun cls d σ H => ∃ yes, PySem.W.exmOne K cls p.1 = some yes ∧ (yes = true → ∀ a, H a = none → p.2 a cls d (dropS i D) (σ.set i (some (.ref a))) H) ∧ (yes = false → wAll2 K Wout D i r cls d σ H)
  | (false, p) :: r => fun cls d σ H => ∃ yes, PySem.W.exmOne K cls p.1 = some yes ∧ (yes = true → ∀ a, H a = none → p.2 a cls d D σ H) ∧ (yes = false → wAll2 K Wout D i r cls d σ H)
/-- the clauses, each with its suite's reading -/
inductive Cls2 (X : Cx) (n : Str) : List ExceptHandler → List (Bool × Cl) → Prop
  | none : Cls2 X n [] []
  | one {x : Str} {c : Value} {ts : Addr → Value → Option Addr → TS} {st : Stmt} {more : List Stmt} {np hp : Pos} {hs : List ExceptHandler} {l : List (Bool × Cl)} (nm : Names X x c)
      (su : ∀ (a : Addr) (oe : Obj) (cls : Value) (d : Option Addr) (pn : List (Addr × Obj)), Zc cls d oe → (∃ vs, oe.data = .fields vs) → PSs (X.suite a ((a, oe) :: pn)) (st :: more) (ts a cls d)) (rest : Cls2 X n hs l) :
      Cls2 X n (.ExceptHandler (some (.Name x np)) (some n) (st :: more) hp :: hs) ((true, c, ts) :: l)
  | bare {x : Str} {c : Value} {ts : Addr → Value → Option Addr → TS} {st : Stmt} {more : List Stmt} {np hp : Pos} {hs : List ExceptHandler} {l : List (Bool × Cl)} (nm : Names X x c)
      (su : ∀ (a : Addr) (oe : Obj) (cls : Value) (d : Option Addr) (pn : List (Addr × Obj)), Zc cls d oe → (∃ vs, oe.data = .fields vs) → PSs (X.suite a ((a, oe) :: pn)) (st :: more) (ts a cls d)) (rest : Cls2 X n hs l) :
      Cls2 X n (.ExceptHandler (some (.Name x np)) none (st :: more) hp :: hs) ((false, c, ts) :: l)
section
variable {X : Cx} {n : Str} {i : Nat} {Wout : WX} {D : Ends} {pins : List (Addr × Obj)} {σ : L2.St} {H : Hp} {B : Heap} {a : Addr} {cls : Value} {d : Option Addr}
/-- the clauses looked at one after the other; the exception at a flies over this frame in the heap h3 -/
theorem clauses_run2 (hf : X.env.frame = some X.env.locals) (hN : X.N.Nodup) (hi : X.N[i]? = some n) (hln : X.env.kindOf n = some .local) (tk : Takes X Wout) {s' : Shared} {h3 : Heap} (ok : X.Ok)
    (na : H a = none) (nL : a ≠ X.env.locals) (nF : a ∉ X.fs) (here : Inv X pins σ H { s' with heap := h3 })
    (land : ∀ h4, HandSPX.FlyingZ B (X.env :: X.outer) a (Zc cls d) h4 → h3.UpToSlots h4 → Inv X pins σ H { s' with heap := h4 }) (fly : HandSPX.FlyingZ B (X.env :: X.outer) a (Zc cls d) h3)
    (out : Wout cls d σ H → ∀ h4, HandSPX.HeldZ B (X.env :: X.outer) a (Zc cls d) X.env.locals h4 → h3.UpToSlots h4 → XE X Wout (.ref a) { s' with heap := h4 }) :
    ∀ {hds : List ExceptHandler} {l : List (Bool × Cl)}, Cls2 X n hds l → wAll2 X.K Wout D i l cls d σ H → wpAny (model X.prog X.w) X.A (handleBy (.ref a) X.env hds) (SP X pins D) X.xe { s' with heap := h3 } := by
  intro hds l hc
  obtain ⟨oe, vs, he, hz, hd⟩ := fly.there
  induction hc with
  | none =>
    intro w
    obtain ⟨_, _, _, _, vs2, T, _, _, he2, _, hd2, h1, _⟩ := id fly
    refine wpAny_handleBy_nil ?_
    unfold PySem.passOn
    refine wpAny_bind (wpAny_field he2 hd2 h1 ?_)
    rw [if_neg (by simp)]
    have leave : wpAny (model X.prog X.w) X.A (setFlight (.ref a) X.env.frame) (fun _ s4 => wpAny (model X.prog X.w) X.A (throw (.ref a) : Sem Flow) (SP X pins D) X.xe s4) X.xe { s' with heap := h3 } := by
      rw [hf]
      exact HandSPX.setFlight_upZ fly fun h4 held up4 => wpAny_throw (tk _ _ (out w h4 held up4))
    first
      | exact wpAny_bind leave
      | exact wpAny_bind (wpAny_pure (wpAny_bind leave))
  | @one x c ts st more np hp hs l nm su rest ih =>
    rintro ⟨yes, hy, w1, w2⟩
    have S3 := here.suite he hd na nL nF
    have cl : PySem.W.Looks (model X.prog X.w) h3 (typeOf (.ref a)) cls := fun A Q E s k q => wpAny_typeOf_ref (k _ _ he) (by rw [hz.1]; exact q)
    refine wpAny_handleBy_cons (codeAny_handlers_test ?_) (fun q => by cases q)
    have named : ∀ {Q E : Value → Shared → Prop}, Q c { s' with heap := h3 } → wpAny (model X.prog X.w) (X.A.mark (some (.ref a))) (eval (.Name x np) X.env) Q E { s' with heap := h3 } := fun {Q E} q => by
      obtain ⟨hg, hdb, hm | ⟨hm, hv, hn⟩⟩ := nm
      · exact ld_glob (X := X.suite a ((a, oe) :: (X.pn ++ pins))) S3 hg hm q hdb
      · exact ld_blt (X := X.suite a ((a, oe) :: (X.pn ++ pins))) S3 hg hm hv q hn hdb
    refine named ((PySem.W.exm_one (M := model X.prog X.w) here.kIn cl hy).here ?_)
    cases yes with
    | false => exact ih (w2 rfl)
    | true =>
      refine codeAny_handlers_suite_as (HandSPX.lands_againZ fly fun h4 fly4 up4 => ?_)
      have J4 := land h4 fly4 up4
      obtain ⟨oe4, vs4, he4, hz4, hd4⟩ := fly4.there
      refine store_ok (X := X.suite a ((a, oe4) :: (X.pn ++ pins))) (v := .ref a) (J4.suite he4 hd4 na nL nF) hN hi (.inl hln) rfl (fun s5 S5 => ?_) (.inr hln)
      have after : ∀ {s6 : Shared} {σ6 : L2.St} {H6 : Hp} {R : Shared → Prop}, Inv (X.suite a ((a, oe4) :: (X.pn ++ pins))) [] σ6 H6 s6 → (∀ s7, Inv X pins (σ6.set i none) H6 s7 → R s7) →
          wpAny (model X.prog X.w) X.A (do bindName X.env n .none; unbindBehindTheSuite X.env n hp) (fun _ s7 => R s7) X.xe s6 := fun {s6 σ6 H6 R} S6 hq => gone_ok (S6.unsuite ok) hN hi hln hq
      refine wpAny_mono ((su a oe4 cls d (X.pn ++ pins) hz4 ⟨_, hd4⟩).run [] s5 _ H _ S5 (w1 rfl a na)) (fun fl s6 hsp => ?_) (fun _ _ z => False.elim z)
      cases fl with
      | ret u =>
        obtain ⟨v, σ6, H6, S6, r, q⟩ := hsp
        exact after S6 fun s7 J7 => ⟨_, _, _, J7, r, q⟩
      | next =>
        obtain ⟨σ6, H6, S6, q⟩ := hsp
        exact after S6 fun s7 J7 => ⟨_, _, J7, q⟩
      | brk =>
        obtain ⟨σ6, H6, S6, q⟩ := hsp
        exact after S6 fun s7 J7 => ⟨_, _, J7, q⟩
      | cont =>
        obtain ⟨σ6, H6, S6, q⟩ := hsp
        exact after S6 fun s7 J7 => ⟨_, _, J7, q⟩
  | @bare x c ts st more np hp hs l nm su rest ih =>
    rintro ⟨yes, hy, w1, w2⟩
    have S3 := here.suite he hd na nL nF
    have cl : PySem.W.Looks (model X.prog X.w) h3 (typeOf (.ref a)) cls := fun A Q E s k q => wpAny_typeOf_ref (k _ _ he) (by rw [hz.1]; exact q)
    refine wpAny_handleBy_cons (codeAny_handlers_test ?_) (fun q => by cases q)
    have named : ∀ {Q E : Value → Shared → Prop}, Q c { s' with heap := h3 } → wpAny (model X.prog X.w) (X.A.mark (some (.ref a))) (eval (.Name x np) X.env) Q E { s' with heap := h3 } := fun {Q E} q => by
      obtain ⟨hg, hdb, hm | ⟨hm, hv, hn⟩⟩ := nm
      · exact ld_glob (X := X.suite a ((a, oe) :: (X.pn ++ pins))) S3 hg hm q hdb
      · exact ld_blt (X := X.suite a ((a, oe) :: (X.pn ++ pins))) S3 hg hm hv q hn hdb
    refine named ((PySem.W.exm_one (M := model X.prog X.w) here.kIn cl hy).here ?_)
    cases yes with
    | false => exact ih (w2 rfl)
    | true =>
      refine codeAny_handlers_suite ?_
      refine HandSPX.lands_againZ fly fun h4 fly4 up4 => ?_
      have J4 := land h4 fly4 up4
      obtain ⟨oe4, vs4, he4, hz4, hd4⟩ := fly4.there
      have S4 := J4.suite he4 hd4 na nL nF
      refine wpAny_mono ((su a oe4 cls d (X.pn ++ pins) hz4 ⟨_, hd4⟩).run [] _ _ H _ S4 (w1 rfl a na)) (fun fl s6 hsp => ?_) (fun _ _ z => False.elim z)
      cases fl with
      | ret u =>
        obtain ⟨v, σ6, H6, S6, r, q⟩ := hsp
        exact ⟨v, σ6, H6, S6.unsuite ok, r, q⟩
      | next =>
        obtain ⟨σ6, H6, S6, q⟩ := hsp
        exact ⟨σ6, H6, S6.unsuite ok, q⟩
      | brk =>
        obtain ⟨σ6, H6, S6, q⟩ := hsp
        exact ⟨σ6, H6, S6.unsuite ok, q⟩
      | cont =>
        obtain ⟨σ6, H6, S6, q⟩ := hsp
        exact ⟨σ6, H6, S6.unsuite ok, q⟩
end
section
variable {X : Cx} {n : Str} {i : Nat} {body : List Stmt} {hd0 : ExceptHandler} {hds : List ExceptHandler} {l : List (Bool × Cl)} {pos : Pos} {tb : WX → TS} {Wout : WX}
theorem ps_try_all2 (hs : X.stack = X.env :: X.outer) (hf : X.env.frame = some X.env.locals) (hN : X.N.Nodup) (hi : X.N[i]? = some n) (hln : X.env.kindOf n = some .local) (tk : Takes X Wout)
    (hb : ∀ (W : WX) (pn : List (Addr × Obj)) (xe : Value → Shared → Prop), Takes (X.tr pn xe) W → PassesOwn (model X.prog X.w) X.A X.env xe → PSs (X.tr pn xe) body (tb W)) (hc : Cls2 X n (hd0 :: hds) l) :
    PS X (.Try body (hd0 :: hds) [] [] pos) (fun D σ H => tb (wAll2 X.K Wout D i l) D σ H) := by
  refine ⟨fun pins s σ H D I h => wpAny_Try_except ?_⟩
  have ok := I.ok
  have hfr : X.A.frames = some (X.env :: X.outer) := by rw [ok.frames, hs]
  have run := (hb (wAll2 X.K Wout D i l) (X.pn ++ pins) (fun e s₁ => wpAny (model X.prog X.w) X.A (noteFrame e X.env) (fun _ s₂ => wpAny (model X.prog X.w) X.A (setFlight e none) (fun _ s₃ => wpAny (model X.prog X.w) X.A (handleBy e X.env (hd0 :: hds)) (SP X pins D) X.xe s₃) X.xe s₂) X.xe s₁)
    (fun u s' xx => ?_) PassesOwn.looking).run [] s σ H D (I.toTry _) h
  · refine wpAny_mono run (fun fl s1 hsp => ?_) (fun e s1 he => he)
    cases fl with
    | ret u =>
      obtain ⟨v, σ', H', J, r, q⟩ := hsp
      exact ⟨v, σ', H', J.ofTry ok, r, q⟩
    | next =>
      obtain ⟨σ', H', J, q⟩ := hsp
      exact wpAny_execs_nil ⟨σ', H', J.ofTry ok, q⟩
    | brk =>
      obtain ⟨σ', H', J, q⟩ := hsp
      exact ⟨σ', H', J.ofTry ok, q⟩
    | cont =>
      obtain ⟨σ', H', J, q⟩ := hsp
      exact ⟨σ', H', J.ofTry ok, q⟩
  · obtain ⟨a, B, sI, _, σ', H', cls, d, rfl, J', nb, up, sky, na, os, ag, w⟩ := xx
    have J : Inv X pins σ' H' sI := J'.ofTry ok
    have sky' : Sky B (X.env :: X.outer) a (Zc cls d) X.env.locals s'.heap := by rw [← hs]; exact sky
    show wpAny (model X.prog X.w) X.A (noteFrame (.ref a) X.env) _ _ _
    refine Sky.land Zc.steady hfr hf sky' fun h3 fly up3 => ?_
    have land : ∀ h4, HandSPX.FlyingZ B (X.env :: X.outer) a (Zc cls d) h4 → h3.UpToSlots h4 → Inv X pins σ' H' { s' with heap := h4 } := fun h4 f4 u4 => J.landed nb f4.1 ((up.trans up3).trans u4) os ag
    have here : Inv X pins σ' H' { s' with heap := h3 } := J.landed nb fly.1 (up.trans up3) os ag
    obtain ⟨oe, vs, he, hz, hd⟩ := fly.there
    have nfr : a ∉ frs (X.env :: X.outer) := fun hm => by
      obtain ⟨_, o', e', no⟩ := fly.2.2.1.mem hm
      rw [he] at e'
      cases e'
      exact no _ hd
    have nL : a ≠ X.env.locals := fun z => nfr (List.mem_filterMap.mpr ⟨X.env, List.mem_cons_self, by rw [hf, z]⟩)
    have nF : a ∉ X.fs := fun hm => by
      obtain ⟨e, h1, h2⟩ := List.mem_filterMap.mp hm
      exact nfr (List.mem_filterMap.mpr ⟨e, List.mem_cons_of_mem _ h1, h2⟩)
    refine clauses_run2 hf hN hi hln tk ok na nL nF here land fly (fun wo h4 held u4 => ?_) hc w
    exact ⟨a, B, sI, pins, σ', H', cls, d, rfl, J, nb, (up.trans up3).trans u4, .inr (.inr (by rw [hs]; exact held)), na, os, ag, wo⟩
end
/-! ### isinstance(e, C), which holds -/
theorem kit_ansT {K : PySem.W.Frag} {x t c : Value} {H : Heap → Prop} (ty : ∀ (M : Model) (h : Heap), K.In h → H h → PySem.W.Looks M h (typeOf x) t) (e : PySem.W.kitOne K t c = some true) : PySem.Answers (fun s => K.In s.heap ∧ H s.heap) x c true := by
  intro dep tk prog w A R s hs
  obtain ⟨h0, g, d, tt, os⟩ := s
  obtain ⟨⟨X, p⟩, hq⟩ := hs
  have LT := ty (model prog w) h0 X p
  unfold PySem.W.kitOne at e
  unfold Builtin.«isinstance.nested»
  refine wpAny_bind (LT.at ?_)
  by_cases q : (t == c) = true
  · rw [if_pos q] at e
    rw [if_pos q]
    first
      | ((repeat lk); exact hq tt)
      | exact wpAny_bind (wpAny_rule (hq tt))
      | exact wpAny_bind (wpAny_rule (wpAny_pure (hq tt)))
  · rw [if_neg q] at e
    rw [if_neg q]
    obtain ⟨hty, his, hsub⟩ := PySem.W.kit_cls (M := model prog w) X e
    have LI : PySem.W.Looks (model prog w) h0 (isInstance x c) true := LT.andThen hsub
    refine wpAny_bind (hty.at ?_)
    rw [if_pos (by decide)]
    k_delta "plainIsInstance"
    refine wpAny_bind (wpAny_bind (his.at ?_))
    simp only [Bool.not_true, Bool.false_eq_true, if_false]
    refine wpAny_bind (LI.at ?_)
    first
      | exact wpAny_pure (wpAny_pure (hq tt))
      | (simp only [if_true]; first | exact wpAny_pure (wpAny_pure (hq tt)) | exact wpAny_pure (hq tt) | exact wpAny_bind (wpAny_pure (wpAny_pure (hq tt))))
/-- isinstance(e, c), e the exception that the suite holds at a: it is one -/
def rIsET (K : PySem.W.Frag) (cls : Value) (a : Addr) : List V → Hp → VK → Prop := fun xs H Q => ∃ (c : V) (cv : Value), xs = [.ref a, c] ∧ (∀ u, RelV c u → u = cv) ∧ PySem.W.kitOne K cls cv = some true ∧ Q (.bl true) H
theorem call_isET {X : Cx} {a : Addr} {cls : Value} {d : Option Addr} {oe : Obj} {pn : List (Addr × Obj)} (hz : Zc cls d oe) : CallR (X.suite a ((a, oe) :: pn)) (.builtin "isinstance") (rIsET X.K cls a) := by
  intro pins s σ H xs us Q I r h
  obtain ⟨c, cv, rfl, hcv, e, q⟩ := h
  cases r with
  | cons rx rr =>
    cases rr with
    | cons rt rr =>
      cases rr
      cases rx
      have ec := hcv _ rt
      subst ec
      obtain ⟨hget, _⟩ := I.pin (a, oe) (List.mem_append.mpr (.inl List.mem_cons_self))
      refine PySem.call_isinstance (S := fun _ R s => (X.K.In s.heap ∧ s.heap.get? a = some oe) ∧ ∀ tk, R (.ok (.ret (.bool true))) { s with toks := tk })
        (fun prog w A R s hs => PySem.isinstance_outer (kit_ansT (H := fun h => h.get? a = some oe) (fun M h _ g => ?_) e 0 _ prog w A R s hs) (fun z => nomatch z)) ⟨⟨I.kIn, hget⟩, fun tk => ⟨.bl true, H, I.kept (t' := tk) fun _ _ z => z, rfl, q⟩⟩
      exact fun A' Q' E' s' k q => wpAny_typeOf_ref (k _ _ g) (by rw [hz.1]; exact q)
/-- a class of the program's that is looked at (the base of its own exceptions) -/
structure RefC (K : PySem.W.Frag) (mg : Str → Option Value) (name : Str) where
  C : Addr
  g : mg name = some (.ref C)
  isc : PySem.W.isClsIn K C = true
  ty : PySem.W.typeIn K (.ref C) = some (.type "type")
  be : PySem.W.subIn K (.ref C) (.type "BaseException") = some true
theorem RefC.kit {K : PySem.W.Frag} {mg : Str → Option Value} {n : Str} (B : RefC K mg n) {A : Addr} (h : PySem.W.subIn K (.ref A) (.ref B.C) = some true) : PySem.W.kitOne K (.ref A) (.ref B.C) = some true := by
  unfold PySem.W.kitOne
  split
  · rfl
  · show (if ((PySem.W.clsIn K B.C).isSome && PySem.W.typeIn K (.ref B.C) == some (.type "type")) = true then PySem.W.subIn K (.ref A) (.ref B.C) else none) = some true
    rw [if_pos ?_]
    · exact h
    · have e : (PySem.W.clsIn K B.C).isSome = true := B.isc
      rw [e, B.ty] <;> rfl
theorem RefC.exm {K : PySem.W.Frag} {mg : Str → Option Value} {n : Str} (B : RefC K mg n) {A : Addr} {b : Bool} (h : PySem.W.subIn K (.ref A) (.ref B.C) = some b) : PySem.W.exmOne K (.ref A) (.ref B.C) = some b := by
  have h1 : (PySem.W.subIn K (.ref B.C) (.type "BaseException") == some true) = true := by rw [B.be] <;> rfl
  have h2 : ((PySem.W.clsIn K B.C).isSome && PySem.W.typeIn K (.ref B.C) == some (.type "type")) = true := by
    have e : (PySem.W.clsIn K B.C).isSome = true := B.isc
    rw [e, B.ty] <;> rfl
  unfold PySem.W.exmOne
  rw [if_pos h1]
  show (if ((PySem.W.clsIn K B.C).isSome && PySem.W.typeIn K (.ref B.C) == some (.type "type")) = true then PySem.W.subIn K (.ref A) (.ref B.C) else none) = some b
  rw [if_pos h2]
  exact h
theorem kit_ve {K : PySem.W.Frag} {A : Addr} (h : PySem.W.subIn K (.ref A) (.type "ValueError") = some true) : PySem.W.kitOne K (.ref A) (.type "ValueError") = some true := by
  unfold PySem.W.kitOne
  rw [if_neg (by intro q; cases beq_iff_eq.mp q)]
  show (if PySem.W.kitMeta "ValueError" = true then PySem.W.subIn K (.ref A) (.type "ValueError") else none) = some true
  rw [if_pos (by decide +kernel)]
  exact h
end Nv
set_option Elab.async false
set_option linter.all false
set_option maxRecDepth 100000
namespace Nv
open PySem PySem.Spec PyProof.Rows L2
def topS (i : Nat) : Stmt := PySem.Challenge.pw_neverfour_k02_strays_and_meeting.main.body.getD i (.Pass ⟨0, 0, 0, 0⟩)
abbrev s_whole : Stmt := topS 1
abbrev s_whole_within : Stmt := topS 2
abbrev s_tuple_within : Stmt := topS 3
abbrev s_first_rows : Stmt := topS 4
abbrev s_by_meeting : Stmt := topS 5
abbrev s_made_book : Stmt := topS 14
abbrev s_is_book : Stmt := topS 15
abbrev s_trimmed : Stmt := topS 16
abbrev s_check_form : Stmt := topS 17
abbrev s_has_state_form : Stmt := topS 18
abbrev s_law_pool : Stmt := topS 20
abbrev s_law_draw : Stmt := topS 21
abbrev s_law_pick : Stmt := topS 22
abbrev s_law_turned : Stmt := topS 23
abbrev s_law_book_meeting : Stmt := topS 24
abbrev s_law_book_messages : Stmt := topS 25
abbrev s_law_book_drawn : Stmt := topS 26
abbrev s_law_book_renamed : Stmt := topS 27
abbrev s_law_heard : Stmt := topS 28
abbrev s_law_with_strays : Stmt := topS 29
abbrev s_law_by_rows : Stmt := topS 30
abbrev s_law_trimmed_right : Stmt := topS 31
abbrev s_law : Stmt := topS 32
structure DefAt (K : PySem.W.Frag) (mg : Str → Option Value) (name : Str) (st : Stmt) (ps : List Str) where
  f : Addr
  fd : FuncData
  F : Fun K name name st f fd
  g : mg name = some (.ref f)
  bd : ∀ us : List Value, us.length = ps.length → bindArgs fd ⟨us, []⟩ = pure (ps.zip us)
structure FunE (K : PySem.W.Frag) (x qual : Str) (st : Stmt) (dvs : List V) (f : Addr) (fd : FuncData) : Prop where
  d : FunD K x qual (defArgs st) (defBody st) (defScope st) dvs [] f fd
theorem FunE.kp {K : PySem.W.Frag} {x qual : Str} {st : Stmt} {dvs : List V} {f : Addr} {fd : FuncData} (F : FunE K x qual st dvs f fd) : PySem.W.keepIn K (.ref f) = true := F.d.kp
theorem FunE.ok {P : Program} {w : World} {K : PySem.W.Frag} {mg : Str → Option Value} {base : Heap} {x qual : Str} {st : Stmt} {dvs : List V} {f : Addr} {fd : FuncData} {N ps : List Str} {k : Nat} {sp : Sp} (F : FunE K x qual st dvs f fd) (S : FnScope N ps (defScope st)) (len : ∀ vs H Q E, sp vs H Q E → vs.length = ps.length)
    (hbody : ∀ (cdv : Value) (A : Around) (outer : List Env) (s : Shared) (H : Hp) (vs : List V) (Q : VK) (E : XK), Room k (A.deeper (envOfC qual (defScope st) s.heap.objs.size f cdv)) → sp vs H Q E →
      ∃ t, PSs (cxOf CX0 P w K mg base N qual (defScope st) f cdv A outer s H E).nox (defBody st) t ∧ t { nx := fun _ H' => Q .non H', rt := Q } (start N vs) H) : FnOk P w K mg base CX0 (k + 1) f fd ps sp :=
  F.d.ok S len fun cdv A outer s H vs Q E hr hsp => by
    obtain ⟨t, h, q⟩ := hbody cdv A outer s H vs Q E hr hsp
    exact ⟨t, h.nox, q⟩
structure DefAtD (K : PySem.W.Frag) (mg : Str → Option Value) (name : Str) (st : Stmt) (ps : List Str) (dvs : List V) where
  f : Addr
  fd : FuncData
  F : FunE K name name st dvs f fd
  g : mg name = some (.ref f)
  b : Binds K fd ps []
  bD : ∃ ds, Vals dvs ds ∧ Binds K fd ps ds
theorem DefAt.b {K : PySem.W.Frag} {mg : Str → Option Value} {n : Str} {st : Stmt} {ps : List Str} (D : DefAt K mg n st ps) : Binds K D.fd ps [] := .all D.bd
theorem DefAt.bind1 {K : PySem.W.Frag} {mg : Str → Option Value} {n x : Str} {st : Stmt} (D : DefAt K mg n st [x]) (s : Shared) (v : Value) : BindsTo s D.fd ⟨[v], []⟩ [(x, v)] := .of_eq (D.bd [v] rfl)
theorem Room.units0 {k : Nat} {A : Around} (hr : Room k A) : A.units + 1 < cLine := hu_of hr
abbrev s_init : Stmt := match topS 7 with
  | .ClassDef _ _ _ b _ _ _ _ _ _ _ => b.getD 0 (.Pass ⟨0, 0, 0, 0⟩)
  | s => s
structure InitAt (K : PySem.W.Frag) where
  f : Addr
  fd : FuncData
  F : Fun K "__init__" "Refused.__init__" s_init f fd
  ti : PySem.W.typeIn K (.ref f) = some (.type "function")
  bd : ∀ us : List Value, us.length = 2 → bindArgs fd ⟨us, []⟩ = pure ((["self", "what"] : List Str).zip us)
theorem InitAt.b {K : PySem.W.Frag} (D : InitAt K) : Binds K D.fd ["self", "what"] [] := .all D.bd
structure Tx (K : PySem.W.Frag) (mg : Str → Option Value) where
  whole : DefAt K mg "whole" s_whole ["thing"]
  whole_within : DefAt K mg "whole_within" s_whole_within ["thing", "low", "high"]
  tuple_within : DefAt K mg "tuple_within" s_tuple_within ["thing", "low", "high"]
  first_rows : DefAtD K mg "first_rows" s_first_rows ["states", "start"] [.int 0]
  by_meeting : DefAt K mg "by_meeting" s_by_meeting ["states"]
  made_book : DefAt K mg "made_book" s_made_book ["thing"]
  is_book : DefAt K mg "is_book" s_is_book ["thing"]
  trimmed : DefAt K mg "trimmed" s_trimmed ["thing"]
  check_form : DefAt K mg "check_form" s_check_form ["thing"]
  has_state_form : DefAt K mg "has_state_form" s_has_state_form ["thing", "many"]
  law_pool : DefAt K mg "_law_pool" s_law_pool ["script"]
  law_draw : DefAt K mg "_law_draw" s_law_draw ["pool", "many"]
  law_pick : DefAt K mg "_law_pick" s_law_pick ["pool", "things"]
  law_turned : DefAt K mg "_law_turned" s_law_turned ["pool", "many"]
  law_book_meeting : DefAt K mg "_law_book_meeting" s_law_book_meeting ["moves"]
  law_book_messages : DefAt K mg "_law_book_messages" s_law_book_messages ["pool", "count"]
  law_book_drawn : DefAt K mg "_law_book_drawn" s_law_book_drawn ["pool", "states", "most"]
  law_book_renamed : DefAt K mg "_law_book_renamed" s_law_book_renamed ["pool", "book"]
  law_heard : DefAt K mg "_law_heard" s_law_heard ["call"]
  law_with_strays : DefAt K mg "_law_with_strays" s_law_with_strays ["pool", "book"]
  law_by_rows : DefAt K mg "_law_by_rows" s_law_by_rows ["book"]
  law_trimmed_right : DefAt K mg "_law_trimmed_right" s_law_trimmed_right ["book", "strays"]
  law : DefAt K mg "law" s_law ["script"]
  init : InitAt K
  x_BadBook : ExcC K mg "BadBook" init.f
  x_Stray : ExcC K mg "Stray" init.f
  s_BadBook_BadBook : PySem.W.subIn K (.ref x_BadBook.C) (.ref x_BadBook.C) = some true
  s_Stray_BadBook : PySem.W.subIn K (.ref x_Stray.C) (.ref x_BadBook.C) = some false
  s_Stray_Stray : PySem.W.subIn K (.ref x_Stray.C) (.ref x_Stray.C) = some true
  r_Refused : RefC K mg "Refused"
  q_BadBook : PySem.W.subIn K (.ref x_BadBook.C) (.ref r_Refused.C) = some true
  v_BadBook : PySem.W.subIn K (.ref x_BadBook.C) (.type "ValueError") = some true
  q_Stray : PySem.W.subIn K (.ref x_Stray.C) (.ref r_Refused.C) = some true
  v_Stray : PySem.W.subIn K (.ref x_Stray.C) (.type "ValueError") = some true
  n_isinstance : mg "isinstance" = none
  n_int : mg "int" = none
  n_bool : mg "bool" = none
  n_tuple : mg "tuple" = none
  n_len : mg "len" = none
  n_list : mg "list" = none
  n_enumerate : mg "enumerate" = none
  n_range : mg "range" = none
  n_sorted : mg "sorted" = none
  n_min : mg "min" = none
  n_ValueError : mg "ValueError" = none
  n_repr : mg "repr" = none
  c_MOST_STATES : ∃ t, mg "MOST_STATES" = some (.int 8 t)
  c_MOST_MESSAGES : ∃ t, mg "MOST_MESSAGES" = some (.int 5 t)
  c_GREATEST_MESSAGE : ∃ t, mg "GREATEST_MESSAGE" = some (.int 99 t)
end Nv
set_option Elab.async false
set_option linter.all false
set_option maxRecDepth 100000
namespace Nv
open PySem PySem.Spec PyProof.Rows L2
/-! ### what stays -/
/-- all that was tracked is as it was, but for the addresses of L -/
def Ext (L : List Addr) (H H' : Hp) : Prop := ∀ b o, b ∉ L → H b = some o → H' b = some o
theorem Ext.refl {L : List Addr} {H : Hp} : Ext L H H := fun _ _ _ e => e
theorem Ext.trans {L : List Addr} {H H1 H2 : Hp} (a : Ext L H H1) (b : Ext L H1 H2) : Ext L H H2 := fun c o n e => b c o n (a c o n e)
theorem Ext.mono {L M : List Addr} {H H' : Hp} (a : Ext L H H') (s : ∀ x ∈ L, x ∈ M) : Ext M H H' := fun c o n e => a c o (fun z => n (s c z)) e
theorem Ext.weak {L : List Addr} {H H' : Hp} (a : Ext [] H H') : Ext L H H' := a.mono fun x z => nomatch z
theorem Ext.same {L : List Addr} {H H' : Hp} (a : Same H H') : Ext L H H' := fun c o _ e => a c o e
theorem Ext.toSame {H H' : Hp} (a : Ext [] H H') : Same H H' := fun c o e => a c o (by simp) e
theorem Ext.new {L : List Addr} {H : Hp} {p : Addr} {o : HO} (h : H p = none) : Ext L H (upd H p o) := fun b u _ e => by
  rw [upd_ne (ne_of_none e h)]
  exact e
theorem Ext.wr {L : List Addr} {H : Hp} {p : Addr} {o : HO} (h : p ∈ L) : Ext L H (upd H p o) := fun b u n e => by
  rw [upd_ne (fun z => n (by rw [z]; exact h))]
  exact e
theorem Ext.at {L : List Addr} {H H' : Hp} {p : Addr} {o : HO} (a : Ext L H H') (h : H p = some o) (n : p ∉ L) : H' p = some o := a p o n h
theorem Ext.free {H H' : Hp} {p : Addr} (a : Ext [] H H') (h : H' p = none) : H p = none := a.toSame.free h
/-- drop an address that was free -/
theorem Ext.drop {L : List Addr} {H H' : Hp} {p : Addr} (a : Ext (p :: L) H H') (h : H p = none) : Ext L H H' := fun b o n e => a b o (fun z => by
  rcases List.mem_cons.mp z with z | z
  · exact ne_of_none e h z
  · exact n z) e
theorem Ext.drop2 {L : List Addr} {H H1 H' : Hp} {p : Addr} (s : Ext [] H H1) (a : Ext (p :: L) H1 H') (h : H p = none) : Ext L H H' := Ext.drop ((s.weak).trans a) h
/-- at these addresses stand no tuples -/
def Lsts (L : List Addr) (H : Hp) : Prop := ∀ l ∈ L, ∃ o, H l = some o ∧ (∀ xs, o ≠ .tup xs) ∧ ∀ ob u, o ≠ .frz ob u
theorem Lsts.nil {H : Hp} : Lsts [] H := fun _ z => nomatch z
theorem Lsts.not {L : List Addr} {H : Hp} (l : Lsts L H) {a : Addr} {xs : List V} (h : H a = some (.tup xs)) : a ∉ L := fun z => by
  obtain ⟨o, e, n, _⟩ := l a z
  rw [h] at e
  exact n xs (Option.some.inj e).symm
theorem Lsts.notF {L : List Addr} {H : Hp} (l : Lsts L H) {a : Addr} {ob : Obj} {u : HO} (h : H a = some (.frz ob u)) : a ∉ L := fun z => by
  obtain ⟨o, e, _, n⟩ := l a z
  rw [h] at e
  exact n ob u (Option.some.inj e).symm
theorem Ext.tup {L : List Addr} {H H' : Hp} {K : PySem.W.Frag} {a : Addr} {xs : List V} (e : Ext L H H') (l : Lsts L H) (h : SqT K H a xs) : SqT K H' a xs := by
  rcases h with (h | ⟨o, h⟩) | h
  · exact .inl (.inl (e _ _ (l.not h) h))
  · exact .inl (.inr ⟨o, e _ _ (l.notF h) h⟩)
  · exact .inr h
theorem Ext.tz {L : List Addr} {H H' : Hp} {a : Addr} {xs : List V} (e : Ext L H H') (l : Lsts L H) (h : TupZ H a xs) : TupZ H' a xs := by
  obtain ⟨o, h, d⟩ := h
  exact ⟨o, e _ _ (l.notF h) h, d⟩
theorem Ext.frz {L : List Addr} {H H' : Hp} {K : PySem.W.Frag} {a : Addr} {xs : List V} (e : Ext L H H') (n : a ∉ L) (h : SqL K H a xs) : SqL K H' a xs := by
  rcases h with (h | ⟨o, h⟩) | h
  · exact .inl (.inl (e _ _ n h))
  · exact .inl (.inr ⟨o, e _ _ n h⟩)
  · exact .inr h
theorem two_lsts {p l : Addr} {H : Hp} {xs ys : List V} (h1 : H p = some (.lst xs)) (h2 : H l = some (.lst ys)) : Lsts [p, l] H := fun a z => by
  rcases List.mem_cons.mp z with z | z
  · exact ⟨.lst xs, by rw [z]; exact h1, fun _ q => (nomatch q), fun _ _ q => (nomatch q)⟩
  · exact ⟨.lst ys, by rw [List.mem_singleton.mp z]; exact h2, fun _ q => (nomatch q), fun _ _ q => (nomatch q)⟩
theorem one_lst {p : Addr} {H : Hp} {xs : List V} (h1 : H p = some (.lst xs)) : Lsts [p] H := fun a z => ⟨.lst xs, by rw [List.mem_singleton.mp z]; exact h1, fun _ q => (nomatch q), fun _ _ q => (nomatch q)⟩
theorem one_dk {p : Addr} {H : Hp} {xs : List (Key × V)} (h1 : H p = some (.dK xs)) : Lsts [p] H := fun a z => ⟨.dK xs, by rw [List.mem_singleton.mp z]; exact h1, fun _ q => (nomatch q), fun _ _ q => (nomatch q)⟩
theorem one_tbl {p : Addr} {H : Hp} {xs : Array Value} (h1 : H p = some (.tbl xs)) : Lsts [p] H := fun a z => ⟨.tbl xs, by rw [List.mem_singleton.mp z]; exact h1, fun _ q => (nomatch q), fun _ _ q => (nomatch q)⟩
/-! ### a word between an expression and what follows -/
def tMid (t : TE) : TE := fun σ H Q => ∃ M : VK, t σ H M ∧ ∀ v H', M v H' → Q v H'
theorem pe_mid {X : Cx} {e : Expr} {t : TE} (h : PE X e t) : PE X e (tMid t) := ⟨fun pins s σ H Q I ⟨M, h1, h2⟩ => thn (h.run pins s σ H M I h1) fun u s' ⟨v, H', I', r, m⟩ => ⟨v, H', I', r, h2 v H' m⟩⟩
def tMidT (t : TT) : TT := fun σ H Q => ∃ M : Bool → Hp → Prop, t σ H M ∧ ∀ v H', M v H' → Q v H'
theorem pt_mid {X : Cx} {e : Expr} {t : TT} (h : PT X e t) : PT X e (tMidT t) := ⟨fun pins s σ H Q I ⟨M, h1, h2⟩ => thn (h.run pins s σ H M I h1) fun u s' ⟨H', I', m⟩ => ⟨H', I', h2 _ H' m⟩⟩
/-! ### data: ints -/
theorem ints_lay : ∀ ns : List Int, PyData.canLayAll0 (ns.map PyData.int) = true
  | [] => rfl
  | n :: r => by simp [PyData.canLayAll0, PyData.canLay0, ints_lay r]
theorem ints_depth : ∀ ns : List Int, PyData.depthAll (ns.map PyData.int) = 0
  | [] => rfl
  | n :: r => by simp [PyData.depthAll, PyData.depth, ints_depth r]
theorem ints_show : ∀ ns : List Int, (∀ n ∈ ns, 0 ≤ n ∧ n < 1000) → PyData.showableAll (ns.map PyData.int) = true
  | [], _ => rfl
  | n :: r, h => by
    have h1 := h n (by simp)
    have h2 : n.natAbs.log2 < 1920 := Nat.lt_of_le_of_lt (Nat.log2_le_self _) (by omega)
    simp [PyData.showableAll, PyData.showable, ints_show r fun m hm => h m (by simp [hm]), h2]
theorem ints_nodict : ∀ ns : List Int, PyData.hasDictAll (ns.map PyData.int) = false
  | [] => rfl
  | n :: r => by simp [PyData.hasDictAll, PyData.hasDict, ints_nodict r]
theorem ints_eqv : ∀ ns ms : List Int, PyData.eqvAll (ns.map PyData.int) (ms.map PyData.int) = decide (ns = ms)
  | [], [] => by simp [PyData.eqvAll]
  | [], m :: q => by simp [PyData.eqvAll]
  | n :: r, [] => by simp [PyData.eqvAll]
  | n :: r, m :: q => by
    simp only [List.map_cons, PyData.eqvAll, PyData.eqv, ints_eqv r q, List.cons.injEq]
    by_cases h : n = m <;> simp [h]
theorem dp_ints {K : PySem.W.Frag} {H : Hp} : ∀ (ns : List Int), DpAll K H (ns.map V.int) (ns.map PyData.int)
  | [] => .nil
  | n :: r => .cons (.int n) (dp_ints r)
theorem shaped_ints (ns : List Int) : SeqAt.shaped (.list (ns.map PyData.int)) = true := by simp [SeqAt.shaped, PyData.canLay0, ints_lay, PyData.depth, ints_depth]
theorem shaped_intsT (ns : List Int) : SeqAt.shaped (.tuple (ns.map PyData.int)) = true := by simp [SeqAt.shaped, PyData.canLay0, ints_lay, PyData.depth, ints_depth]
theorem eqv_nil {ns : List Int} : PyData.eqv (.list (ns.map PyData.int)) (.list []) = decide (ns = []) := by
  have h := ints_eqv ns []
  simpa [PyData.eqv] using h
/-! ### books -/
abbrev State := List (Nat × Nat)
abbrev Book := List State
def MvV (K : PySem.W.Frag) (H : Hp) (p : Addr) (m : Nat × Nat) : Prop := SqT K H p [.int m.1, .int m.2]
def StV (K : PySem.W.Frag) (H : Hp) (v : V) (s : State) : Prop := ∃ (a : Addr) (ps : List Addr), v = .ref a ∧ TupZ H a (ps.map V.ref) ∧ Paired (MvV K H) ps s
def BkV (K : PySem.W.Frag) (H : Hp) (v : V) (b : Book) : Prop := ∃ (a : Addr) (vs : List V), v = .ref a ∧ SqT K H a vs ∧ Paired (StV K H) vs b
theorem Paired.imp {α β : Type} {F G : α → β → Prop} : ∀ {l₁ : List α} {l₂ : List β}, Paired F l₁ l₂ → (∀ a b, F a b → G a b) → Paired G l₁ l₂
  | _, _, .nil, _ => .nil
  | _, _, .cons r t, f => .cons (f _ _ r) (Paired.imp t f)
theorem Paired.get {α β : Type} {F : α → β → Prop} : ∀ {l₁ : List α} {l₂ : List β} {i : Nat} {b : β}, Paired F l₁ l₂ → l₂[i]? = some b → ∃ a, l₁[i]? = some a ∧ F a b
  | _, _, _, _, .nil, e => by simp at e
  | _, _, 0, _, .cons r _, e => by cases e; exact ⟨_, rfl, r⟩
  | _, _, i + 1, _, .cons _ t, e => by
    obtain ⟨a, e1, e2⟩ := Paired.get (i := i) t (by simpa using e)
    exact ⟨a, by simpa using e1, e2⟩
theorem Paired.get' {α β : Type} {F : α → β → Prop} : ∀ {l₁ : List α} {l₂ : List β} {i : Nat} {a : α}, Paired F l₁ l₂ → l₁[i]? = some a → ∃ b, l₂[i]? = some b ∧ F a b
  | _, _, _, _, .nil, e => by simp at e
  | _, _, 0, _, .cons r _, e => by cases e; exact ⟨_, rfl, r⟩
  | _, _, i + 1, _, .cons _ t, e => by
    obtain ⟨a, e1, e2⟩ := Paired.get' (i := i) t (by simpa using e)
    exact ⟨a, by simpa using e1, e2⟩
theorem Paired.len {α β : Type} {F : α → β → Prop} : ∀ {l₁ : List α} {l₂ : List β}, Paired F l₁ l₂ → l₁.length = l₂.length
  | _, _, .nil => rfl
  | _, _, .cons _ t => by rw [List.length_cons, List.length_cons, Paired.len t]
theorem Paired.snoc {α β : Type} {F : α → β → Prop} {a : α} {b : β} (h : F a b) : ∀ {l₁ : List α} {l₂ : List β}, Paired F l₁ l₂ → Paired F (l₁ ++ [a]) (l₂ ++ [b])
  | _, _, .nil => .cons h .nil
  | _, _, .cons r t => .cons r (Paired.snoc h t)
theorem StV.ext {L : List Addr} {H H' : Hp} {K : PySem.W.Frag} {v : V} {s : State} (e : Ext L H H') (l : Lsts L H) (h : StV K H v s) : StV K H' v s := by
  obtain ⟨a, ps, rfl, h1, h2⟩ := h
  exact ⟨a, ps, rfl, e.tz l h1, Paired.imp h2 fun _ _ q => e.tup l q⟩
theorem BkV.ext {L : List Addr} {H H' : Hp} {K : PySem.W.Frag} {v : V} {b : Book} (e : Ext L H H') (l : Lsts L H) (h : BkV K H v b) : BkV K H' v b := by
  obtain ⟨a, vs, rfl, h1, h2⟩ := h
  exact ⟨a, vs, rfl, e.tup l h1, Paired.imp h2 fun _ _ q => q.ext e l⟩
theorem BkV.ext0 {H H' : Hp} {K : PySem.W.Frag} {v : V} {b : Book} (h : BkV K H v b) (e : Ext [] H H') : BkV K H' v b := h.ext e Lsts.nil
theorem StV.ext0 {H H' : Hp} {K : PySem.W.Frag} {v : V} {s : State} (h : StV K H v s) (e : Ext [] H H') : StV K H' v s := h.ext e Lsts.nil
/-- values -/
theorem atN {xs : List V} {i : Nat} {v : V} (h : xs[i]? = some v) : atI xs (i : Int) = some v := atI_nat h
abbrev nV (n : Nat) : V := .int (n : Int)
theorem map_at {α : Type} {f : α → V} {xs : List α} {i : Nat} {y : V} (h : (xs.map f)[i]? = some y) : ∃ x, xs[i]? = some x ∧ y = f x := by
  rw [List.getElem?_map] at h
  cases e : xs[i]? with
  | none => rw [e] at h; cases h
  | some x => rw [e] at h; exact ⟨x, rfl, (Option.some.inj h).symm⟩
theorem at_map {α : Type} {f : α → V} {xs : List α} {i : Nat} {x : α} (h : xs[i]? = some x) : (xs.map f)[i]? = some (f x) := by rw [List.getElem?_map, h]; rfl
theorem dec_int {a b : Int} : decide (V.int a = V.int b) = decide (a = b) := by
  by_cases h : a = b
  · subst h; simp
  · rw [decide_eq_false h, decide_eq_false fun e => h (V.int.inj e)]
theorem ifB {b : Bool} {A B : Prop} (h1 : b = true → A) (h2 : b = false → B) : if b = true then A else B := by
  cases b
  · exact iteF (h2 rfl)
  · exact iteT (h1 rfl)
theorem flat_nV (F : List Nat) : (F.map nV).all flatV = true := by
  rw [List.all_eq_true]
  intro v hv
  obtain ⟨n, _, rfl⟩ := List.mem_map.mp hv
  rfl
theorem eqV_nV (a b : Nat) : eqV (nV a) (nV b) = decide (a = b) := by
  unfold nV eqV
  by_cases h : a = b
  · subst h; simp
  · have h2 : ¬ ((a : Int) = (b : Int)) := fun e => h (by omega)
    simp [h, h2]
theorem inV_nV (t : Nat) (F : List Nat) : inV (nV t) (F.map nV) = decide (t ∈ F) := by
  unfold inV
  rw [List.any_map]
  by_cases h : t ∈ F
  · rw [decide_eq_true h, List.any_eq_true]
    exact ⟨t, h, by simp [eqV_nV]⟩
  · rw [decide_eq_false h, List.any_eq_false]
    intro x hx
    simp only [Function.comp, eqV_nV, decide_eq_true_eq]
    exact fun e => h (e ▸ hx)
/-- lists of moves that are not closed yet -/
def LsV (K : PySem.W.Frag) (H : Hp) (v : V) (s : State) : Prop := ∃ (a : Addr) (ps : List Addr), v = .ref a ∧ H a = some (.lst (ps.map V.ref)) ∧ Paired (MvV K H) ps s
def LbV (K : PySem.W.Frag) (H : Hp) (v : V) (b : Book) : Prop := ∃ (a : Addr) (vs : List V), v = .ref a ∧ H a = some (.lst vs) ∧ Paired (LsV K H) vs b
theorem LsV.ext0 {H H' : Hp} {K : PySem.W.Frag} {v : V} {s : State} (h : LsV K H v s) (e : Ext [] H H') : LsV K H' v s := by
  obtain ⟨a, ps, rfl, h1, h2⟩ := h
  exact ⟨a, ps, rfl, e.at h1 (by simp), Paired.imp h2 fun _ _ q => e.tup Lsts.nil q⟩
theorem LbV.ext0 {H H' : Hp} {K : PySem.W.Frag} {v : V} {b : Book} (h : LbV K H v b) (e : Ext [] H H') : LbV K H' v b := by
  obtain ⟨a, ps, rfl, h1, h2⟩ := h
  exact ⟨a, ps, rfl, e.at h1 (by simp), Paired.imp h2 fun _ _ q => q.ext0 e⟩
theorem MvV.ext0 {H H' : Hp} {K : PySem.W.Frag} {p : Addr} {m : Nat × Nat} (h : MvV K H p m) (e : Ext [] H H') : MvV K H' p m := e.tup Lsts.nil h
/-- a list that was made behind H may be written -/
theorem Ext.put {H H' : Hp} {p : Addr} {o : HO} (e : Ext [] H H') (h : H p = none) : Ext [] H (upd H' p o) := Ext.drop (e.weak.trans (.wr (by simp))) h
theorem Ext.put' {L : List Addr} {H H' : Hp} {p : Addr} {o : HO} (e : Ext L H H') (h : H p = none) : Ext L H (upd H' p o) := Ext.drop ((e.mono fun x z => List.mem_cons_of_mem _ z).trans (.wr (by simp))) h
theorem Ext.put2 {L : List Addr} {H H' : Hp} {p : Addr} {o : HO} (e : Ext L H H') (h : H' p = none) : Ext L H (upd H' p o) := e.trans (.new h)
theorem StV.put {H : Hp} {K : PySem.W.Frag} {v : V} {s : State} {p : Addr} {xs ys : List V} (h : StV K H v s) (hp : H p = some (.lst xs)) : StV K (upd H p (.lst ys)) v s := h.ext (L := [p]) (.wr (by simp)) (one_lst hp)
theorem MvV.put {H : Hp} {K : PySem.W.Frag} {q : Addr} {m : Nat × Nat} {p : Addr} {xs ys : List V} (h : MvV K H q m) (hp : H p = some (.lst xs)) : MvV K (upd H p (.lst ys)) q m := Ext.tup (L := [p]) (.wr (by simp)) (one_lst hp) h
theorem yes {σ : L2.St} {H : Hp} {A B : Hp → Prop} (h : A H) : tYes σ H (fun b H3 => if b = true then A H3 else B H3) := by
  show if true = true then A H else B H
  exact iteT h
theorem Ext.free2 {L : List Addr} {H H' : Hp} {x : Addr} (e : Ext L H H') (h : H' x = none) (n : x ∉ L) : H x = none := by
  cases q : H x with
  | none => rfl
  | some o =>
    rw [e x o n q] at h
    cases h
theorem eraseIdx_nV {α β : Type} (f : α → β) : ∀ (L : List α) (k : Nat), (L.map f).eraseIdx k = (L.eraseIdx k).map f
  | [], _ => rfl
  | _ :: _, 0 => rfl
  | a :: r, k + 1 => by simp [eraseIdx_nV f r k]
theorem off2 {p l x : Addr} (a : x ≠ p) (b : x ≠ l) : x ∉ [p, l] := fun z => by
  rcases List.mem_cons.mp z with z | z
  · exact a z
  · exact b (List.mem_singleton.mp z)
/-- such a list, not at one of these addresses -/
def LsN (K : PySem.W.Frag) (H : Hp) (X : List Addr) (v : V) (s : State) : Prop := ∃ (a : Addr) (ps : List Addr), v = .ref a ∧ a ∉ X ∧ H a = some (.lst (ps.map V.ref)) ∧ Paired (MvV K H) ps s
theorem LsN.ls {K : PySem.W.Frag} {H : Hp} {X : List Addr} {v : V} {s : State} (h : LsN K H X v s) : LsV K H v s := by
  obtain ⟨a, ps, e, _, h1, h2⟩ := h
  exact ⟨a, ps, e, h1, h2⟩
theorem LsN.ext {K : PySem.W.Frag} {H H' : Hp} {X Y : List Addr} {v : V} {s : State} (h : LsN K H X v s) (e : Ext Y H H') (yx : ∀ y ∈ Y, y ∈ X) (l : Lsts Y H) : LsN K H' X v s := by
  obtain ⟨a, ps, ea, n, h1, h2⟩ := h
  exact ⟨a, ps, ea, n, e _ _ (fun z => n (yx a z)) h1, Paired.imp h2 fun _ _ q => e.tup l q⟩
def mvD (q : Nat × Nat) : PyData := .tuple [.int (q.1 : Int), .int (q.2 : Int)]
theorem dp_mvs {K : PySem.W.Frag} {H : Hp} : ∀ {ps : List Addr} {s : State}, Paired (MvV K H) ps s → DpAll K H (ps.map V.ref) (s.map mvD)
  | _, _, .nil => .nil
  | _, _, .cons r t => .cons (.tup r (.cons (.int _) (.cons (.int _) .nil))) (dp_mvs t)
theorem mvs_lay : ∀ s : State, PyData.canLayAll0 (s.map mvD) = true
  | [] => rfl
  | q :: r => by simp [PyData.canLayAll0, PyData.canLay0, mvs_lay r, mvD]
theorem mvs_depth : ∀ s : State, PyData.depthAll (s.map mvD) ≤ 1
  | [] => by simp [PyData.depthAll]
  | q :: r => by
    have := mvs_depth r
    simp [PyData.depthAll, PyData.depth, mvD]
    omega
theorem shaped_mvs (s : State) : SeqAt.shaped (.list (s.map mvD)) = true := by
  have := mvs_depth s
  simp [SeqAt.shaped, PyData.canLay0, mvs_lay, PyData.depth]
  omega
theorem eqv_mvs_nil (s : State) : PyData.eqv (.list (s.map mvD)) (.list []) = decide (s = []) := by
  cases s <;> simp [PyData.eqv, PyData.eqvAll]
theorem ixNat {k n : Nat} (h : k < n) : ixN n (k : Int) = some k := by
  unfold ixN
  rw [if_pos (by omega), if_pos (by omega)]
  simp
theorem Paired.set {α β : Type} {F : α → β → Prop} {a : α} {b : β} (h : F a b) : ∀ {l₁ : List α} {l₂ : List β} (k : Nat), Paired F l₁ l₂ → Paired F (l₁.set k a) (l₂.set k b)
  | _, _, _, .nil => .nil
  | _, _, 0, .cons _ t => .cons h t
  | _, _, k + 1, .cons r t => .cons r (Paired.set h k t)
/-- the keys of a dict -/
abbrev kN (n : Nat) : Key := Sum.inl (n : Int)
theorem valV_key {kvs : List (Key × V)} {F : List Nat} (h : kvs.map (·.1) = F.map kN) (n : Nat) : (valV kvs (kN n)).isSome = decide (n ∈ F) := by
  rw [← valV_any]
  have e : (kvs.any fun kv => decide (kv.1 = kN n)) = ((kvs.map (·.1)).any fun k => decide (k = kN n)) := by rw [List.any_map]; rfl
  rw [e, h, List.any_map]
  by_cases m : n ∈ F
  · rw [decide_eq_true m, List.any_eq_true]
    exact ⟨n, m, by simp⟩
  · rw [decide_eq_false m, List.any_eq_false]
    intro x hx
    simp only [Function.comp, decide_eq_true_eq]
    intro e
    have e2 : (x : Int) = (n : Int) := Sum.inl.inj e
    exact m (by rw [show n = x by omega]; exact hx)
theorem valV_mem {kvs : List (Key × V)} {k : Key} {v : V} (h : valV kvs k = some v) : (k, v) ∈ kvs := by
  unfold valV at h
  cases e : kvs.find? (fun kv => decide (kv.1 = k)) with
  | none => rw [e] at h; cases h
  | some p =>
    rw [e] at h
    cases h
    have h1 := List.mem_of_find?_eq_some e
    have h2 := List.find?_some e
    simp at h2
    rw [← h2]
    exact h1
/-! ### books whose states are any tuples -/
def StW (K : PySem.W.Frag) (H : Hp) (v : V) (s : State) : Prop := ∃ (a : Addr) (ps : List Addr), v = .ref a ∧ SqT K H a (ps.map V.ref) ∧ Paired (MvV K H) ps s
def BkW (K : PySem.W.Frag) (H : Hp) (v : V) (b : Book) : Prop := ∃ (a : Addr) (vs : List V), v = .ref a ∧ SqT K H a vs ∧ Paired (StW K H) vs b
theorem BkV.wk {K : PySem.W.Frag} {H : Hp} {v : V} {b : Book} (h : BkV K H v b) : BkW K H v b := by
  obtain ⟨a, vs, rfl, h1, h2⟩ := h
  exact ⟨a, vs, rfl, h1, Paired.imp h2 fun _ _ z => by obtain ⟨c, ps, rfl, h3, h4⟩ := z; exact ⟨c, ps, rfl, h3.sq, h4⟩⟩
theorem BkW.ext {L : List Addr} {H H' : Hp} {K : PySem.W.Frag} {v : V} {b : Book} (e : Ext L H H') (l : Lsts L H) (h : BkW K H v b) : BkW K H' v b := by
  obtain ⟨a, vs, rfl, h1, h2⟩ := h
  exact ⟨a, vs, rfl, e.tup l h1, Paired.imp h2 fun _ _ z => by obtain ⟨c, ps, rfl, h3, h4⟩ := z; exact ⟨c, ps, rfl, e.tup l h3, Paired.imp h4 fun _ _ q => e.tup l q⟩⟩
theorem BkW.ext0 {H H' : Hp} {K : PySem.W.Frag} {v : V} {b : Book} (h : BkW K H v b) (e : Ext [] H H') : BkW K H' v b := h.ext e Lsts.nil
end Nv
set_option linter.all false
namespace Nv
/-! ### books: the mathematics -/
def mvs (b : Book) (s : Nat) : State := b.getD s []
inductive Rch (b : Book) : Nat → Prop
  | zero : Rch b 0
  | step {s : Nat} {p : Nat × Nat} : Rch b s → p ∈ mvs b s → Rch b p.2
/-- a state's form, of a book with n states -/
structure StOk (n : Nat) (s : State) : Prop where
  few : s.length ≤ 5
  rise : (s.map (·.1)).Pairwise (· < ·)
  msg : ∀ p ∈ s, p.1 ≤ 99
  to : ∀ p ∈ s, p.2 < n
/-- the form of a book -/
structure FormB (b : Book) : Prop where
  one : 1 ≤ b.length
  eight : b.length ≤ 8
  st : ∀ s ∈ b, StOk b.length s
structure OkB (b : Book) : Prop extends FormB b where
  reach : ∀ s, s < b.length → Rch b s
theorem mvs_of {b : Book} {s : Nat} {x : State} (h : b[s]? = some x) : mvs b s = x := by
  unfold mvs
  rw [List.getD_eq_getElem?_getD, h]
  rfl
theorem mvs_lt {b : Book} {s : Nat} (h : s < b.length) : b[s]? = some (mvs b s) := by
  rw [mvs_of (List.getElem?_eq_getElem h)]
  exact List.getElem?_eq_getElem h
theorem mvs_mem {b : Book} {s : Nat} (h : s < b.length) : mvs b s ∈ b := List.mem_of_getElem? (mvs_lt h)
theorem mvs_out {b : Book} {s : Nat} (h : b.length ≤ s) : mvs b s = [] := by
  unfold mvs
  rw [List.getD_eq_getElem?_getD, List.getElem?_eq_none h]
  rfl
theorem FormB.ok {b : Book} (h : FormB b) {s : Nat} (hs : s < b.length) : StOk b.length (mvs b s) := h.st _ (mvs_mem hs)
theorem FormB.to {b : Book} (h : FormB b) {s : Nat} {p : Nat × Nat} (hp : p ∈ mvs b s) : p.2 < b.length := by
  by_cases hs : s < b.length
  · exact (h.ok hs).to p hp
  · rw [mvs_out (by omega)] at hp
    cases hp
/-- what meeting finds: F the states in their order -/
structure Met (b : Book) (F : List Nat) : Prop where
  nd : F.Nodup
  zero : F[0]? = some 0
  lt : ∀ s ∈ F, s < b.length
  cl : ∀ s ∈ F, ∀ p ∈ mvs b s, p.2 ∈ F
  from_ : ∀ j s, F[j]? = some s → j ≠ 0 → ∃ i s', i < j ∧ F[i]? = some s' ∧ ∃ p ∈ mvs b s', p.2 = s
def rename (b : Book) (F : List Nat) : Book := F.map fun s => (mvs b s).map fun p => (p.1, F.idxOf p.2)
theorem rename_len {b : Book} {F : List Nat} : (rename b F).length = F.length := by simp [rename]
theorem rename_at {b : Book} {F : List Nat} {j s : Nat} (h : F[j]? = some s) : mvs (rename b F) j = (mvs b s).map fun p => (p.1, F.idxOf p.2) := by
  refine mvs_of ?_
  unfold rename
  rw [List.getElem?_map, h]
  rfl
theorem idx_of {F : List Nat} (nd : F.Nodup) {j s : Nat} (h : F[j]? = some s) : F.idxOf s = j := by
  obtain ⟨hj, e⟩ := List.getElem?_eq_some_iff.mp h
  rw [← e]
  exact List.Nodup.idxOf_getElem nd j hj
theorem nodup_le {n : Nat} {F : List Nat} (nd : F.Nodup) (lt : ∀ s ∈ F, s < n) : F.length ≤ n := by
  have h := (List.nodup_range (n := n))
  have : F ⊆ List.range n := fun s hs => List.mem_range.mpr (lt s hs)
  have := List.Nodup.length_le_of_subset nd this
  simpa using this
theorem Met.okB {b : Book} {F : List Nat} (m : Met b F) (h8 : b.length ≤ 8) (hs : ∀ s, s < b.length → (mvs b s).length ≤ 5 ∧ ((mvs b s).map (·.1)).Pairwise (· < ·) ∧ ∀ p ∈ mvs b s, p.1 ≤ 99) : OkB (rename b F) := by
  have h0 : 0 < F.length := (List.getElem?_eq_some_iff.mp m.zero).1
  have hle : F.length ≤ b.length := nodup_le m.nd m.lt
  refine { one := by rw [rename_len]; exact h0, eight := by rw [rename_len]; omega, st := fun x hx => ?_, reach := fun j hj => ?_ }
  · obtain ⟨s, hsF, rfl⟩ := List.mem_map.mp hx
    obtain ⟨a1, a2, a3⟩ := hs s (m.lt s hsF)
    refine ⟨by rw [List.length_map]; exact a1, ?_, fun p hp => ?_, fun p hp => ?_⟩
    · rw [List.map_map]
      exact a2
    · obtain ⟨q, hq, rfl⟩ := List.mem_map.mp hp
      exact a3 q hq
    · obtain ⟨q, hq, rfl⟩ := List.mem_map.mp hp
      rw [rename_len]
      exact List.idxOf_lt_length_of_mem (m.cl s hsF q hq)
  · rw [rename_len] at hj
    have key : ∀ n, ∀ j, j ≤ n → j < F.length → Rch (rename b F) j := by
      intro n
      induction n with
      | zero =>
        intro j h1 _
        have e : j = 0 := by omega
        rw [e]
        exact .zero
      | succ n ih =>
        intro j h1 h2
        by_cases e : j = 0
        · subst e; exact .zero
        · obtain ⟨i, s', hi, hs', p, hp, ep⟩ := m.from_ j F[j] (List.getElem?_eq_getElem h2) e
          have r := ih i (by omega) (by omega)
          have : (p.1, F.idxOf p.2) ∈ mvs (rename b F) i := by
            rw [rename_at hs']
            exact List.mem_map.mpr ⟨p, hp, rfl⟩
          have r2 := Rch.step r this
          have e2 : F.idxOf p.2 = j := idx_of m.nd (by rw [ep]; exact List.getElem?_eq_getElem h2)
          rw [e2] at r2
          exact r2
    exact key j j (Nat.le_refl _) hj
/-! ### meeting, step by step -/
structure MetI (b : Book) (F : List Nat) (i : Nat) : Prop where
  nd : F.Nodup
  zero : F[0]? = some 0
  lt : ∀ s ∈ F, s < b.length
  from_ : ∀ j s, F[j]? = some s → j ≠ 0 → ∃ i s', i < j ∧ F[i]? = some s' ∧ ∃ p ∈ mvs b s', p.2 = s
  le : i ≤ F.length
  cl : ∀ j s, j < i → F[j]? = some s → ∀ p ∈ mvs b s, p.2 ∈ F
structure MetW (b : Book) (F : List Nat) (i s k : Nat) : Prop extends MetI b F i where
  here : F[i]? = some s
  part : ∀ p ∈ (mvs b s).take k, p.2 ∈ F
theorem MetI.first {b : Book} (h : 1 ≤ b.length) : MetI b [0] 0 where
  nd := by simp
  zero := rfl
  lt := fun s hs => by simp at hs; omega
  from_ := fun j s h n => by
    have := (List.getElem?_eq_some_iff.mp h).1
    simp at this
    omega
  le := by simp
  cl := fun j s h => by omega
theorem MetI.begin {b : Book} {F : List Nat} {i s : Nat} (m : MetI b F i) (h : F[i]? = some s) : MetW b F i s 0 := { m with here := h, part := fun p hp => by simp at hp }
theorem MetW.skip {b : Book} {F : List Nat} {i s k : Nat} {p : Nat × Nat} (m : MetW b F i s k) (h : (mvs b s)[k]? = some p) (hp : p.2 ∈ F) : MetW b F i s (k + 1) := { m with
  part := fun q hq => by
    rw [List.take_add_one, h] at hq
    rcases List.mem_append.mp hq with hq | hq
    · exact m.part q hq
    · simp at hq
      rw [hq]
      exact hp }
theorem MetW.push {b : Book} {F : List Nat} {i s k : Nat} {p : Nat × Nat} (m : MetW b F i s k) (h : (mvs b s)[k]? = some p) (hp : p.2 ∉ F) (hb : p.2 < b.length) : MetW b (F ++ [p.2]) i s (k + 1) := by
  have old : ∀ {j x : Nat}, F[j]? = some x → (F ++ [p.2])[j]? = some x := fun {j x} e => by
    rw [List.getElem?_append_left (List.getElem?_eq_some_iff.mp e).1]
    exact e
  refine { nd := ?_, zero := old m.zero, lt := fun x hx => ?_, from_ := fun j x e n => ?_, le := ?_, cl := fun j x hj e q hq => ?_, here := old m.here, part := fun q hq => ?_ }
  · rw [List.nodup_append]
    refine ⟨m.nd, by simp, fun a ha c hc => ?_⟩
    simp at hc
    rw [hc]
    exact fun z => hp (z ▸ ha)
  · rcases List.mem_append.mp hx with hx | hx
    · exact m.lt x hx
    · simp at hx
      rw [hx]
      exact hb
  · by_cases hj : j < F.length
    · rw [List.getElem?_append_left hj] at e
      obtain ⟨i', s', h1, h2, h3⟩ := m.from_ j x e n
      exact ⟨i', s', h1, old h2, h3⟩
    · rw [List.getElem?_append_right (by omega)] at e
      have hz : j - F.length = 0 := by
        have := (List.getElem?_eq_some_iff.mp e).1
        simp at this
        omega
      rw [hz] at e
      cases e
      have hi := (List.getElem?_eq_some_iff.mp m.here).1
      exact ⟨i, s, by omega, old m.here, p, List.mem_of_getElem? h, rfl⟩
  · rw [List.length_append]
    have := m.le
    omega
  · have hjF : j < F.length := by
      have := m.le
      omega
    rw [List.getElem?_append_left hjF] at e
    exact List.mem_append_left _ (m.cl j x hj e q hq)
  · rw [List.take_add_one, h] at hq
    rcases List.mem_append.mp hq with hq | hq
    · exact List.mem_append_left _ (m.part q hq)
    · simp at hq
      rw [hq]
      simp
theorem MetW.done {b : Book} {F : List Nat} {i s k : Nat} (m : MetW b F i s k) (hk : (mvs b s).length ≤ k) : MetI b F (i + 1) := { m with
  le := (List.getElem?_eq_some_iff.mp m.here).1
  cl := fun j x hj e q hq => by
    by_cases hji : j < i
    · exact m.cl j x hji e q hq
    · have : j = i := by omega
      subst this
      rw [m.here] at e
      cases e
      exact m.part q (by rw [List.take_of_length_le hk]; exact hq) }
theorem MetI.met {b : Book} {F : List Nat} {i : Nat} (m : MetI b F i) (h : i = F.length ∨ i = b.length) : Met b F := { m with
  cl := fun s hs p hp => by
    obtain ⟨j, hj, e⟩ := List.mem_iff_getElem.mp hs
    have : F.length ≤ i := by
      rcases h with h | h
      · omega
      · rw [h]
        exact nodup_le m.nd m.lt
    exact m.cl j s (by omega) (by rw [List.getElem?_eq_getElem hj, e]) p hp }
end Nv
set_option Elab.async false
set_option linter.all false
set_option maxRecDepth 100000
namespace Nv
open PySem PySem.Spec PyProof.Rows L2
/-! ### the form of a book, of any data -/
def wholeD : PyData → Bool
  | .int _ => true
  | _ => false
def inD (d : PyData) (lo hi : Int) : Bool := match d with
  | .int i => decide (lo ≤ i ∧ i ≤ hi)
  | _ => false
def tupD (d : PyData) (lo hi : Int) : Bool := match d with
  | .tuple ds => decide (lo ≤ (ds.length : Int) ∧ (ds.length : Int) ≤ hi)
  | _ => false
/-- a move's form behind the message last: its message -/
def pairD (last n : Int) (d : PyData) : Option Int := match d with
  | .tuple [.int m, .int t] => if last + 1 ≤ m ∧ m ≤ 99 ∧ 0 ≤ t ∧ t ≤ n - 1 then some m else none
  | _ => none
def pairsD (last n : Int) : List PyData → Bool
  | [] => true
  | d :: r => match pairD last n d with
    | some m => pairsD m n r
    | none => false
def stateD (n : Int) (d : PyData) : Bool := match d with
  | .tuple ds => decide (ds.length ≤ 5) && pairsD (-1) n ds
  | _ => false
def firstBad (n : Int) : List PyData → Nat → Option Int
  | [], _ => none
  | d :: r, i => if stateD n d = true then firstBad n r (i + 1) else some (i : Int)
/-- what BadBook tells of it -/
def formErr (d : PyData) : Option Int := match d with
  | .tuple ds => if 1 ≤ ds.length ∧ ds.length ≤ 8 then firstBad ds.length ds 0 else some (-1)
  | _ => some (-1)
theorem dpAll_len {K : PySem.W.Frag} {H : Hp} : ∀ {vs : List V} {ds : List PyData}, DpAll K H vs ds → vs.length = ds.length
  | _, _, .nil => rfl
  | _, _, .cons _ t => by rw [List.length_cons, List.length_cons, dpAll_len t]
theorem dpAll_get {K : PySem.W.Frag} {H : Hp} : ∀ {vs : List V} {ds : List PyData} {i : Nat} {d : PyData}, DpAll K H vs ds → ds[i]? = some d → ∃ v, vs[i]? = some v ∧ Dp K H v d
  | _, _, _, _, .nil, e => by simp at e
  | _, _, 0, _, .cons r _, e => by cases e; exact ⟨_, rfl, r⟩
  | _, _, i + 1, _, .cons _ t, e => by
    obtain ⟨v, h1, h2⟩ := dpAll_get (i := i) t (by simpa using e)
    exact ⟨v, by simpa using h1, h2⟩
theorem dpAll_get' {K : PySem.W.Frag} {H : Hp} : ∀ {vs : List V} {ds : List PyData} {i : Nat} {v : V}, DpAll K H vs ds → vs[i]? = some v → ∃ d, ds[i]? = some d ∧ Dp K H v d
  | _, _, _, _, .nil, e => by simp at e
  | _, _, 0, _, .cons r _, e => by cases e; exact ⟨_, rfl, r⟩
  | _, _, i + 1, _, .cons _ t, e => by
    obtain ⟨v, h1, h2⟩ := dpAll_get' (i := i) t (by simpa using e)
    exact ⟨v, by simpa using h1, h2⟩
/-- the type of data -/
def tyD : PyData → String
  | .none => "NoneType"
  | .bool _ => "bool"
  | .int _ => "int"
  | .str _ => "str"
  | .list _ => "list"
  | .tuple _ => "tuple"
  | .dict _ => "dict"
theorem SqT.tyT {K : PySem.W.Frag} {H : Hp} {a : Addr} {xs : List V} (h : SqT K H a xs) : TyX K H (.ref a) (.type "tuple") := by
  rcases h with (h | ⟨o, h⟩) | ⟨o, its, n, e, c, _⟩
  · exact .base (.tup h)
  · exact .fTuple h
  · exact .kTuple e c
theorem SqL.tyL {K : PySem.W.Frag} {H : Hp} {a : Addr} {xs : List V} (h : SqL K H a xs) : TyX K H (.ref a) (.type "list") := by
  rcases h with (h | ⟨o, h⟩) | ⟨o, its, n, e, c, _⟩
  · exact .base (.lst h)
  · exact .base (.frz h)
  · exact .kList e c
theorem Dp.ty {K : PySem.W.Frag} {H : Hp} {v : V} {d : PyData} (h : Dp K H v d) : TyX K H v (.type (tyD d)) := by
  cases h with
  | non => exact .base .non
  | bl b => exact .base (.bl b)
  | int i => exact .base (.int i)
  | str x => exact .base (.str x)
  | lst h _ => exact SqL.tyL h
  | tup h _ => exact SqT.tyT h
theorem pairs_cons {last n : Int} {d : PyData} {r : List PyData} : pairsD last n (d :: r) = match pairD last n d with | some m => pairsD m n r | none => false := rfl
end Nv
set_option Elab.async false
set_option linter.all false
set_option maxRecDepth 100000
namespace Nv
open PySem PySem.Spec PyProof.Rows L2
/-! ### written data -/
mutual
theorem Dp.ext0 {K : PySem.W.Frag} {H H' : Hp} (e : Ext [] H H') : ∀ {v : V} {d : PyData}, Dp K H v d → Dp K H' v d
  | _, _, .non => .non
  | _, _, .bl b => .bl b
  | _, _, .int i => .int i
  | _, _, .str x => .str x
  | _, _, .lst h t => .lst (e.frz (by simp) h) (DpAll.ext0 e t)
  | _, _, .tup h t => .tup (e.tup Lsts.nil h) (DpAll.ext0 e t)
theorem DpAll.ext0 {K : PySem.W.Frag} {H H' : Hp} (e : Ext [] H H') : ∀ {vs : List V} {ds : List PyData}, DpAll K H vs ds → DpAll K H' vs ds
  | _, _, .nil => .nil
  | _, _, .cons h t => .cons (Dp.ext0 e h) (DpAll.ext0 e t)
end
theorem peW {X : Cx} {e : Expr} {t t' : TE} (h : PE X e t) (w : ∀ σ H Q, t' σ H Q → t σ H Q) : PE X e t' := ⟨fun pins s σ H Q I q => h.run pins s σ H Q I (w σ H Q q)⟩
theorem paW {X : Cx} {es : List Expr} {t t' : TA} (h : PA X es t) (w : ∀ σ H R, t' σ H R → t σ H R) : PA X es t' := ⟨fun pos pins s σ H R I q => h.run pos pins s σ H R I (w σ H R q)⟩
/-- data told by the slots -/
def tDat (K : PySem.W.Frag) (f : L2.St → Option PyData) : TE := fun σ H Q => ∃ d, f σ = some d ∧ ∀ v H', Ext [] H H' → Dp K H' v d → Q v H'
def tDats (K : PySem.W.Frag) (f : L2.St → Option (List PyData)) : TA := fun σ H R => ∃ ds, f σ = some ds ∧ ds.length ≤ 1000 ∧ ∀ vs H', Ext [] H H' → DpAll K H' vs ds → R vs H'
/-- a new list of data -/
def tDatL (K : PySem.W.Frag) (f : L2.St → Option (List PyData)) : TE := fun σ H Q => ∃ ds, f σ = some ds ∧ ds.length ≤ 1000 ∧ ∀ p vs H', H p = none → H' p = some (.lst vs) → Ext [] H H' → DpAll K H' vs ds → Q (.ref p) H'
def consO (f : L2.St → Option PyData) (g : L2.St → Option (List PyData)) : L2.St → Option (List PyData) := fun σ => match f σ, g σ with
  | some d, some ds => some (d :: ds)
  | _, _ => none
def slotI (i : Nat) (σ : L2.St) : Option PyData := match σ[i]? with
  | some (some (.int n)) => some (.int n)
  | _ => none
theorem slotI_some {i : Nat} {σ : L2.St} {d : PyData} (h : slotI i σ = some d) : ∃ n, σ[i]? = some (some (.int n)) ∧ d = .int n := by
  unfold slotI at h
  split at h
  · rename_i n e
    exact ⟨n, e, (Option.some.inj h).symm⟩
  · cases h
def tupO (g : L2.St → Option (List PyData)) (σ : L2.St) : Option PyData := match g σ with
  | some l => if l.length ≤ 1000 then some (.tuple l) else none
  | none => none
theorem tupO_some {g : L2.St → Option (List PyData)} {σ : L2.St} {d : PyData} (h : tupO g σ = some d) : ∃ l, g σ = some l ∧ l.length ≤ 1000 ∧ d = .tuple l := by
  unfold tupO at h
  split at h
  · rename_i l e
    split at h
    · rename_i hl
      exact ⟨l, e, hl, (Option.some.inj h).symm⟩
    · cases h
  · cases h
theorem consO_some {f : L2.St → Option PyData} {g : L2.St → Option (List PyData)} {σ : L2.St} {l : List PyData} (h : consO f g σ = some l) : ∃ d ds, f σ = some d ∧ g σ = some ds ∧ l = d :: ds := by
  unfold consO at h
  split at h
  · rename_i d ds e1 e2
    exact ⟨d, ds, e1, e2, (Option.some.inj h).symm⟩
  · cases h
section
variable {X : Cx} {K : PySem.W.Frag}
theorem pd_int {i : Int} {j : Nat} {pos : Pos} : PE X (.Constant (.int i) j pos) (tDat K fun _ => some (.int i)) := peW pe_int fun σ H Q ⟨_, e, q⟩ => by cases e; exact q _ H .refl (.int i)
theorem pd_neg {i : Int} {j : Nat} {pos pos' : Pos} : PE X (.UnaryOp .USub (.Constant (.int i) j pos) pos') (tDat K fun _ => some (.int (-i))) := peW (pe_un un_neg pe_int) fun σ H Q ⟨_, e, q⟩ => by cases e; exact ⟨i, rfl, q _ H .refl (.int _)⟩
theorem pd_bool {b : Bool} {j : Nat} {pos : Pos} : PE X (.Constant (.bool b) j pos) (tDat K fun _ => some (.bool b)) := peW pe_bl fun σ H Q ⟨_, e, q⟩ => by cases e; exact q _ H .refl (.bl b)
theorem pd_none {j : Nat} {pos : Pos} : PE X (.Constant .none j pos) (tDat K fun _ => some .none) := peW pe_non fun σ H Q ⟨_, e, q⟩ => by cases e; exact q _ H .refl .non
theorem pd_str {x : Str} {j : Nat} {pos : Pos} : PE X (.Constant (.str x) j pos) (tDat K fun _ => some (.str x)) := peW pe_str fun σ H Q ⟨_, e, q⟩ => by cases e; exact q _ H .refl (.str x)
/-- a slot that holds a number -/
theorem pd_var {e : Expr} {i : Nat} (h : PE X e (tVar i)) : PE X e (tDat K (slotI i)) := peW h fun σ H Q ⟨d, e, q⟩ => by
  obtain ⟨n, hs, rfl⟩ := slotI_some e
  exact ⟨_, hs, q _ H .refl (.int n)⟩
theorem pds_nil : PA X [] (tDats K fun _ => some []) := paW pa_nil fun σ H R ⟨_, e, _, q⟩ => by cases e; exact q [] H .refl .nil
theorem pds_cons {e : Expr} {es : List Expr} {f : L2.St → Option PyData} {g : L2.St → Option (List PyData)} (h : PE X e (tDat K f)) (r : PA X es (tDats K g)) (hs : starEach (e :: es) X.env = (false, eval e X.env) :: starEach es X.env := by rfl) :
    PA X (e :: es) (tDats K (consO f g)) := paW (pa_cons h r hs) fun σ H R ⟨ds, e, hl, q⟩ => by
  obtain ⟨d, l, hf, hg, rfl⟩ := consO_some e
  rw [List.length_cons] at hl
  exact ⟨d, hf, fun v H1 e1 h1 => ⟨l, hg, by omega, fun vs H2 e2 h2 => q (v :: vs) H2 (e1.trans e2) (.cons (Dp.ext0 e2 h1) h2)⟩⟩
theorem pd_tup {es : List Expr} {g : L2.St → Option (List PyData)} {c : Nat} {pos : Pos} (h : PA X es (tDats K g)) : PE X (.Tuple es c pos) (tDat K (tupO g)) :=
  peW (pe_tup h) fun σ H Q ⟨d, e, q⟩ => by
    obtain ⟨l, hg, hl, rfl⟩ := tupO_some e
    refine ⟨l, hg, hl, fun vs H' e1 h1 => ⟨by rw [dpAll_len h1]; exact Nat.le_of_lt (small1000 hl), fun p hp => ?_⟩⟩
    have e2 : Ext [] H' (upd H' p (.tup vs)) := .new hp
    exact q _ _ (e1.trans e2) (.tup (.of upd_same) (DpAll.ext0 e2 h1))
theorem pd_lst {es : List Expr} {g : L2.St → Option (List PyData)} {pos : Pos} (h : PA X es (tDats K g)) : PE X (.List es pos) (tDatL K g) :=
  peW (pe_lst h) fun σ H Q ⟨l, e, hl, q⟩ => ⟨l, e, hl, fun vs H' e1 h1 => ⟨by rw [dpAll_len h1]; exact Nat.le_of_lt (small1000 hl), fun p hp => by
    have e2 : Ext [] H' (upd H' p (.lst vs)) := .new hp
    exact q p vs _ (e1.free hp) upd_same (e1.trans e2) (DpAll.ext0 e2 h1)⟩⟩
end
end Nv
namespace Nv
open PySem PySem.Spec PyProof.Rows L2
theorem DpAll.append {K : PySem.W.Frag} {H : Hp} : ∀ {vs ws : List V} {ds es : List PyData}, DpAll K H vs ds → DpAll K H ws es → DpAll K H (vs ++ ws) (ds ++ es)
  | _, _, _, _, .nil, h => h
  | _, _, _, _, .cons r t, h => .cons r (DpAll.append t h)
theorem DpAll.rep {K : PySem.W.Frag} {H : Hp} {vs : List V} {ds : List PyData} (h : DpAll K H vs ds) : ∀ k : Nat, DpAll K H (List.replicate k vs).flatten (List.replicate k ds).flatten
  | 0 => .nil
  | k + 1 => by
    rw [List.replicate_succ, List.replicate_succ, List.flatten_cons, List.flatten_cons]
    exact DpAll.append h (DpAll.rep h k)
def repO (g : L2.St → Option (List PyData)) (k : Int) (σ : L2.St) : Option PyData := match g σ with
  | some l => if l ≠ [] ∧ l.length ≤ 1000 ∧ 2 ≤ k ∧ k ≤ 1000 then some (.tuple (List.replicate k.toNat l).flatten) else none
  | none => none
theorem pd_rep {X : Cx} {es : List Expr} {g : L2.St → Option (List PyData)} {c j : Nat} {k : Int} {pos p2 p3 : Pos} (h : PA X es (tDats X.K g)) : PE X (.BinOp (.Tuple es c pos) .Mult (.Constant (.int k) j p2) p3) (tDat X.K (repO g k)) :=
  peW (pe_op op_repT (pe_tup h) pe_int) fun σ H Q ⟨d, e, q⟩ => by
    unfold repO at e
    split at e
    · rename_i l hg
      split at e
      · rename_i hc
        obtain ⟨h1, h2, h3, h4⟩ := hc
        cases e
        refine ⟨l, hg, h2, fun vs H' e1 hd => ⟨by rw [dpAll_len hd]; exact Nat.le_of_lt (small1000 h2), fun p hp => ?_⟩⟩
        have e2 : Ext [] H' (upd H' p (.tup vs)) := .new hp
        refine ⟨p, k, vs, rfl, rfl, .of upd_same, fun z => h1 ?_, h3, h4, by rw [dpAll_len hd]; exact h2, fun t ht => ?_⟩
        · have := dpAll_len hd
          rw [z] at this
          exact List.eq_nil_of_length_eq_zero this.symm
        · have e3 := e2.put2 (o := .tup (List.replicate k.toNat vs).flatten) ht
          exact q _ _ (e1.trans e3) (.tup (.of upd_same) (DpAll.rep (DpAll.ext0 e3 hd) k.toNat))
      · cases e
    · cases e
end Nv
namespace Nv
open PySem PySem.Spec PyProof.Rows L2
mutual
def noL : PyData → Bool
  | .list _ => false
  | .tuple ds => noLs ds
  | _ => true
def noLs : List PyData → Bool
  | [] => true
  | d :: r => noL d && noLs r
end
mutual
theorem Dp.extL {K : PySem.W.Frag} {L : List Addr} {H H' : Hp} (e : Ext L H H') (l : Lsts L H) : ∀ {v : V} {d : PyData}, Dp K H v d → noL d = true → Dp K H' v d
  | _, _, .non, _ => .non
  | _, _, .bl b, _ => .bl b
  | _, _, .int i, _ => .int i
  | _, _, .str x, _ => .str x
  | _, _, .lst _ _, h => by simp [noL] at h
  | _, _, .tup h t, n => .tup (e.tup l h) (DpAll.extL e l t (by simpa [noL] using n))
theorem DpAll.extL {K : PySem.W.Frag} {L : List Addr} {H H' : Hp} (e : Ext L H H') (l : Lsts L H) : ∀ {vs : List V} {ds : List PyData}, DpAll K H vs ds → noLs ds = true → DpAll K H' vs ds
  | _, _, .nil, _ => .nil
  | _, _, .cons h t, n => by
    simp only [noLs, Bool.and_eq_true] at n
    exact .cons (Dp.extL e l h n.1) (DpAll.extL e l t n.2)
end
end Nv
set_option Elab.async false
set_option linter.all false
set_option maxRecDepth 100000
namespace Nv
open PySem PySem.Spec PyProof.Rows L2
section
variable {P : Program} {w : World} {K : PySem.W.Frag} {mg : Str → Option Value} {base : Heap}
/-! ### numbers and tuples: the program's checks -/
theorem sc_whole : FnScope ["thing"] ["thing"] (defScope s_whole) := ⟨rfl, rfl, rfl, by decide +kernel, rfl, by decide +kernel, by decide +kernel⟩
def sp_whole : Sp := fun vs H Q _ => ∃ i : Int, vs = [.int i] ∧ Q (.bl true) H
theorem ok_whole (T : Tx K mg) : FnOk P w K mg base CX0 1 T.whole.f T.whole.fd ["thing"] sp_whole := by
  refine T.whole.F.ok sc_whole (fun vs H Q E h => ?_) (fun cdv A outer s H vs Q E hr h => ?_)
  · obtain ⟨i, rfl, _⟩ := h; rfl
  · obtain ⟨i, rfl, q⟩ := h
    refine ⟨_, (pss_one (ps_ret (pe_and (pe_callB call_isi (by rfl) T.n_isinstance (by decide +kernel) (pa_cons (pv 0) (pa_cons (pe_bltn (v := .ty "int") (by rfl) T.n_int (by decide +kernel) rfl) pa_nil))) (pe_one (pe_not (pe_callB call_isi (by rfl) T.n_isinstance (by decide +kernel) (pa_cons (pv 0) (pa_cons (pe_bltn (v := .ty "bool") (by rfl) T.n_bool (by decide +kernel) rfl) pa_nil)))))))), ?_⟩
    refine ⟨_, rfl, _, _, _, _, _, rfl, .ty _, .base (.int i), kit_ty (b := "int") (r := true) (by decide +kernel), true, rfl, iteT ⟨_, rfl, _, _, _, _, _, rfl, .ty _, .base (.int i), kit_ty (b := "bool") (r := false) (by decide +kernel), false, rfl, q⟩⟩
theorem sc_whole_within : FnScope ["thing", "low", "high"] ["thing", "low", "high"] (defScope s_whole_within) := ⟨rfl, rfl, rfl, by decide +kernel, rfl, by decide +kernel, by decide +kernel⟩
def sp_whole_within : Sp := fun vs H Q _ => ∃ i a b : Int, vs = [.int i, .int a, .int b] ∧ Q (.bl (decide (a ≤ i ∧ i ≤ b))) H
theorem ok_whole_within (T : Tx K mg) : FnOk P w K mg base CX0 2 T.whole_within.f T.whole_within.fd ["thing", "low", "high"] sp_whole_within := by
  refine T.whole_within.F.ok sc_whole_within (fun vs H Q E h => ?_) (fun cdv A outer s H vs Q E hr h => ?_)
  · obtain ⟨i, a, b, rfl, _⟩ := h; rfl
  · obtain ⟨i, a, b, rfl, q⟩ := h
    refine ⟨_, (pss_one (ps_ret (pe_and (pe_call (ok_whole T) (hr.mono (by decide)) (by rfl) T.whole.g T.whole.F.kp T.whole.b .nil pass0 (pa_cons (pv 0) pa_nil)) (pe_one (pe_chain op_le op_le (pv 1) (pv 0) (pv 2)))))), ?_⟩
    refine ⟨_, rfl, i, rfl, true, rfl, iteT ⟨_, rfl, _, rfl, _, _, rfl, rfl, _, rfl, ?_⟩⟩
    by_cases h1 : a ≤ i
    · rw [decide_eq_true h1]
      refine iteT ⟨_, rfl, _, _, rfl, rfl, ?_⟩
      have e : decide (a ≤ i ∧ i ≤ b) = decide (i ≤ b) := by simp [h1]
      rw [e] at q
      exact q
    · rw [decide_eq_false h1]
      have e : decide (a ≤ i ∧ i ≤ b) = false := by simp [h1]
      rw [e] at q
      exact iteF q
theorem sc_tuple_within : FnScope ["thing", "low", "high"] ["thing", "low", "high"] (defScope s_tuple_within) := ⟨rfl, rfl, rfl, by decide +kernel, rfl, by decide +kernel, by decide +kernel⟩
def sp_tuple_within (K : PySem.W.Frag) : Sp := fun vs H Q _ => ∃ (t : Addr) (xs : List V) (a b : Int), vs = [.ref t, .int a, .int b] ∧ SqT K H t xs ∧ TyX K H (.ref t) (.type "tuple") ∧ Q (.bl (decide (a ≤ (xs.length : Int) ∧ (xs.length : Int) ≤ b))) H
theorem ok_tuple_within (T : Tx K mg) : FnOk P w K mg base CX0 1 T.tuple_within.f T.tuple_within.fd ["thing", "low", "high"] (sp_tuple_within K) := by
  refine T.tuple_within.F.ok sc_tuple_within (fun vs H Q E h => ?_) (fun cdv A outer s H vs Q E hr h => ?_)
  · obtain ⟨t, xs, a, b, rfl, _⟩ := h; rfl
  · obtain ⟨t, xs, a, b, rfl, ht, ty, q⟩ := h
    refine ⟨_, (pss_one (ps_ret (pe_and (pe_callB call_isi (by rfl) T.n_isinstance (by decide +kernel) (pa_cons (pv 0) (pa_cons (pe_bltn (v := .ty "tuple") (by rfl) T.n_tuple (by decide +kernel) rfl) pa_nil))) (pe_one (pe_chain op_le op_le (pv 1) (pe_callB call_len_seq (by rfl) T.n_len PySem.boot_len (pa_cons (pv 0) pa_nil)) (pv 2)))))), ?_⟩
    refine ⟨_, rfl, _, _, _, _, _, rfl, .ty _, ty, kit_ty (b := "tuple") (r := true) (by decide +kernel), true, rfl, iteT ⟨_, rfl, _, rfl, t, xs, rfl, .inr ht, _, _, rfl, rfl, _, rfl, ?_⟩⟩
    by_cases h1 : a ≤ (xs.length : Int)
    · rw [decide_eq_true h1]
      refine iteT ⟨_, rfl, _, _, rfl, rfl, ?_⟩
      have e : decide (a ≤ (xs.length : Int) ∧ (xs.length : Int) ≤ b) = decide ((xs.length : Int) ≤ b) := by simp [h1]
      rw [e] at q
      exact q
    · rw [decide_eq_false h1]
      have e : decide (a ≤ (xs.length : Int) ∧ (xs.length : Int) ≤ b) = false := by simp [h1]
      rw [e] at q
      exact iteF q
theorem SqT.ty {K : PySem.W.Frag} {H : Hp} {a : Addr} {xs : List V} (h : SqT K H a xs) : TyX K H (.ref a) (.type "tuple") := by
  rcases h with (h | ⟨o, h⟩) | ⟨o, its, n, e, c, _⟩
  · exact .base (.tup h)
  · exact .fTuple h
  · exact .kTuple e c
/-! ### the law's draws -/
/-- the pool at p, its list at l -/
def PoolAt (H : Hp) (p l : Addr) : Prop := p ≠ l ∧ ∃ (x y : Int) (ns : List Int), H p = some (.lst [.int x, .int y, .ref l]) ∧ H l = some (.lst (ns.map V.int)) ∧ 0 ≤ x ∧ 0 ≤ y ∧ y < 4294967296 ∧ ns.length ≤ 63
theorem PoolAt.lsts {H : Hp} {p l : Addr} (h : PoolAt H p l) : Lsts [p, l] H := by
  obtain ⟨_, x, y, ns, h1, h2, _⟩ := h
  exact two_lsts h1 h2
theorem PoolAt.ext {H H' : Hp} {p l : Addr} {L : List Addr} (h : PoolAt H p l) (e : Ext L H H') (h1 : p ∉ L) (h2 : l ∉ L) : PoolAt H' p l := by
  obtain ⟨n, x, y, ns, a, b, r⟩ := h
  exact ⟨n, x, y, ns, e _ _ h1 a, e _ _ h2 b, r⟩
theorem PoolAt.ext0 {H H' : Hp} {p l : Addr} (h : PoolAt H p l) (e : Ext [] H H') : PoolAt H' p l := h.ext e (by simp) (by simp)
theorem sc_law_pool : FnScope ["script", "first", "size"] ["script"] (defScope s_law_pool) := ⟨rfl, rfl, rfl, by decide +kernel, rfl, by decide +kernel, by decide +kernel⟩
def sp_law_pool (K : PySem.W.Frag) : Sp := fun vs H Q _ => ∃ (a : Addr) (ns : List Int), vs = [.ref a] ∧ SqL K H a (ns.map V.int) ∧ ns.length ≤ 63 ∧ ∀ (p l : Addr) (H' : Hp), H p = none → H l = none → PoolAt H' p l → Ext [] H H' → Q (.ref p) H'
theorem ok_law_pool (T : Tx K mg) : FnOk P w K mg base CX0 1 T.law_pool.f T.law_pool.fd ["script"] (sp_law_pool K) := by
  refine T.law_pool.F.ok sc_law_pool (fun vs H Q E h => ?_) (fun cdv A outer s H vs Q E hr h => ?_)
  · obtain ⟨a, ns, rfl, _⟩ := h; rfl
  · obtain ⟨a, ns, rfl, hS, hl, q⟩ := h
    refine ⟨_, (C8.pss_cut (ps_set (i := 1) sc_law_pool.nd rfl (.inl rfl) (pe_mid (pe_ifExp (pt_cmpR op_gt (pe_callB call_len_seq (by rfl) T.n_len PySem.boot_len (pa_cons (pv 0) pa_nil)) pe_int (nomark _)) (pe_callTy call_int1 (by rfl) T.n_int (by decide +kernel) (pa_cons (pe_ix ix_list (pv 0) pe_int (fun _ _ => rfl)) pa_nil)) pe_int)))
      (C8.pss_cut (ps_set (i := 2) sc_law_pool.nd rfl (.inl rfl) (pe_mid (pe_ifExp (pt_cmpR op_ge (pv 1) pe_int (nomark _)) (pe_op op_mul pe_int (pv 1)) (pe_op op_sub (pe_un un_neg pe_int) (pe_op op_mul pe_int (pv 1))))))
      (pss_one (ps_ret (pe_lst (pa_cons (pe_mid (pe_ifExp (pt_cmpR op_ge (pv 2) (pe_op op_pow pe_int pe_int) (nomark _)) (pv 2) pe_int)) (pa_cons (pe_op op_add (pe_op op_mod (pe_callTy call_int1 (by rfl) T.n_int (by decide +kernel) (pa_cons (pe_op op_add (pe_op op_mul (pv 2) pe_int) pe_int) pa_nil)) pe_int) pe_int) (pa_cons (pe_callTy call_list_of (by rfl) T.n_list (by decide +kernel) (pa_cons (pe_slice sl_list (pv 0) (po_some pe_int) po_none) pa_nil)) pa_nil)))))))), ?_⟩
    refine ⟨fun σ' H' => H' = H ∧ ∃ i : Int, σ' = [some (.ref a), some (.int i), none], ?_, ?_⟩
    · refine ⟨fun v H' => H' = H ∧ ∃ i : Int, v = .int i, ?_, ?_⟩
      · refine ⟨_, rfl, a, _, rfl, .inl hS, _, _, rfl, rfl, _, rfl, ite2 (fun e => ?_) (fun e => ?_)⟩
        · cases ns with
          | nil => simp at e
          | cons n r => exact ⟨_, rfl, _, _, _, _, rfl, rfl, hS, atI_nat (j := 0) rfl, .inl ⟨_, rfl, rfl, _, rfl⟩⟩
        · exact ⟨rfl, _, rfl⟩
      · rintro v H' ⟨rfl, i, rfl⟩
        exact ⟨rfl, i, rfl⟩
    · rintro σ' H' ⟨rfl, i, rfl⟩
      refine ⟨fun σ' H1 => H1 = H' ∧ ∃ z : Int, 0 ≤ z ∧ σ' = [some (.ref a), some (.int i), some (.int z)], ?_, ?_⟩
      · refine ⟨fun v H1 => H1 = H' ∧ ∃ z : Int, 0 ≤ z ∧ v = .int z, ?_, ?_⟩
        · refine ⟨_, rfl, _, _, rfl, rfl, _, rfl, ite2 (fun e => ?_) (fun e => ?_)⟩
          · have e := of_decide_eq_true e
            exact ⟨_, rfl, _, _, rfl, rfl, .inl ⟨by decide, by decide⟩, rfl, _, by omega, rfl⟩
          · have e : ¬ (0 ≤ i) := fun z => e (decide_eq_true z)
            exact ⟨_, rfl, _, rfl, _, _, rfl, rfl, .inl ⟨by decide, by decide⟩, _, _, rfl, rfl, rfl, _, by omega, rfl⟩
        · rintro v H1 ⟨rfl, z, hz, rfl⟩
          exact ⟨rfl, z, hz, rfl⟩
      · rintro σ' H1 ⟨rfl, z, hz, rfl⟩
        have ym : 0 ≤ (z * 48271 + 1009) % 2147483629 + 3 ∧ (z * 48271 + 1009) % 2147483629 + 3 < 4294967296 := by omega
        refine ⟨fun v H' => H' = H1 ∧ ∃ x : Int, 0 ≤ x ∧ v = .int x, ?_, ?_⟩
        · refine ⟨_, rfl, _, _, rfl, rfl, ⟨by decide, by decide, by decide⟩, _, _, rfl, rfl, _, rfl, ite2 (fun e => ?_) (fun e => ?_)⟩
          · exact ⟨_, rfl, rfl, z, hz, rfl⟩
          · exact ⟨rfl, 0, by omega, rfl⟩
        · rintro v H' ⟨rfl, x, hx, rfl⟩
          refine ⟨_, rfl, _, _, rfl, rfl, .inr ⟨by decide, by decide⟩, _, _, rfl, rfl, .inl ⟨_, rfl, _, _, rfl, rfl, (by show (0:Int) < 2147483629; decide), _, _, rfl, rfl, ?_⟩⟩
          refine ⟨.ref a, rfl, 1, rfl, a, _, rfl, hS, fun c hc => ⟨c, _, rfl, .inl (.of upd_same), fun l hl0 => ⟨(by show 3 ≤ sizeLine; decide), fun p hp => ?_⟩⟩⟩
          have s1 : Ext [] H' (upd H' c (.lst (cutV (ns.map V.int) (some 1) none))) := .new hc
          have s2 := s1.trans (Ext.new (L := []) (o := .lst (cutV (ns.map V.int) (some 1) none)) hl0)
          have pl : p ≠ l := fun e => by rw [e, upd_same] at hp; cases hp
          have cut : ∃ ms : List Int, cutV (ns.map V.int) (some 1) none = ms.map V.int ∧ ms.length ≤ 63 := by
            unfold cutV
            exact ⟨(ns.drop _).take _, by rw [List.map_take, List.map_drop], by rw [List.length_take, List.length_drop]; omega⟩
          obtain ⟨ms, em, hm⟩ := cut
          refine q p l _ (s2.free hp) (s1.free hl0) ⟨pl, x, _, ms, upd_same, ?_, hx, ym.1, ym.2, hm⟩ (s2.trans (.new hp))
          rw [upd_ne pl.symm, upd_same, em]
theorem sc_law_draw : FnScope ["pool", "many", "cell", "size", "found"] ["pool", "many"] (defScope s_law_draw) := ⟨rfl, rfl, rfl, by decide +kernel, rfl, by decide +kernel, by decide +kernel⟩
def sp_law_draw : Sp := fun vs H Q _ => ∃ (p l : Addr) (m : Int), vs = [.ref p, .int m] ∧ PoolAt H p l ∧ 0 < m ∧ m < 1073741824 ∧ ∀ (r : Int) (H' : Hp), 0 ≤ r → r < m → PoolAt H' p l → Ext [p, l] H H' → Q (.int r) H'
theorem ok_law_draw (T : Tx K mg) : FnOk P w K mg base CX0 1 T.law_draw.f T.law_draw.fd ["pool", "many"] sp_law_draw := by
  refine T.law_draw.F.ok sc_law_draw (fun vs H Q E h => ?_) (fun cdv A outer s H vs Q E hr h => ?_)
  · obtain ⟨p, l, m, rfl, _⟩ := h; rfl
  · obtain ⟨p, l, m, rfl, hP, hm, hm2, q⟩ := h
    refine ⟨_, (C8.pss_cut (ps_if (PW.pt (pw_and (pt_cmpR op_eq (pe_ix ix_list (pv 0) pe_int (fun _ _ => rfl)) pe_int (nomark _)) (pw_and1 (pt_cmpR (op_neD (hr.units)) (pe_ix ix_list (pv 0) pe_int (fun _ _ => rfl)) (pe_lst pa_nil) (nomark _)))))
        (pss_cons (ps_set (i := 2) sc_law_draw.nd rfl (.inl rfl) (pe_callTy call_int1 (by rfl) T.n_int (by decide +kernel) (pa_cons (pe_bm PySem.F.plainAttrs_list PySem.F.slot_list_pop PySem.F.type_list_pop mt_popAt (pe_ix ix_list (pv 0) pe_int (fun _ _ => rfl)) (pa_cons pe_int pa_nil)) pa_nil)))
        (pss_cons (ps_set (i := 3) sc_law_draw.nd rfl (.inl rfl) (pe_mid (pe_ifExp (pt_cmpR op_ge (pv 2) pe_int (nomark _)) (pe_op op_mul pe_int (pv 2)) (pe_op op_sub (pe_un un_neg pe_int) (pe_op op_mul pe_int (pv 2))))))
        (pss_cons (ps_asg (pe_mid (pe_ifExp (pt_cmpR op_ge (pv 3) (pe_op op_pow pe_int pe_int) (nomark _)) (pv 3) pe_int)) (pg_sub (pv 0) pe_int set_list))
        (pss_one (ps_asg (pe_op op_add (pe_op op_mod (pe_callTy call_int1 (by rfl) T.n_int (by decide +kernel) (pa_cons (pe_op op_add (pe_ix ix_list (pv 0) pe_int (fun _ _ => rfl)) (pe_op op_mul (pv 3) pe_int)) pa_nil)) pe_int) pe_int) (pg_sub (pv 0) pe_int set_list))))))
        pss_nil)
      (pss_cons (ps_if (pt_cmpR op_gt (pe_ix ix_list (pv 0) pe_int (fun _ _ => rfl)) pe_int (nomark _))
        (pss_cons (ps_set (i := 4) sc_law_draw.nd rfl (.inl rfl) (pe_op op_mod (pe_callTy call_int1 (by rfl) T.n_int (by decide +kernel) (pa_cons (pe_ix ix_list (pv 0) pe_int (fun _ _ => rfl)) pa_nil)) (pv 1)))
        (pss_cons (ps_asg (pe_op op_fdiv (pe_ix ix_list (pv 0) pe_int (fun _ _ => rfl)) (pv 1)) (pg_sub (pv 0) pe_int set_list))
        (pss_one (ps_ret (pv 4)))))
        pss_nil)
      (pss_cons (ps_asg (pe_op op_mod (pe_callTy call_int1 (by rfl) T.n_int (by decide +kernel) (pa_cons (pe_op op_add (pe_op op_mul (pe_ix ix_list (pv 0) pe_int (fun _ _ => rfl)) pe_int) pe_int) pa_nil)) pe_int) (pg_sub (pv 0) pe_int set_list))
      (pss_one (ps_ret (pe_op op_mod (pe_op op_fdiv (pe_op op_mod (pe_callTy call_int1 (by rfl) T.n_int (by decide +kernel) (pa_cons (pe_op op_mul (pe_ix ix_list (pv 0) pe_int (fun _ _ => rfl)) (pe_ix ix_list (pv 0) pe_int (fun _ _ => rfl))) pa_nil)) pe_int) pe_int) (pv 1))))))), ?_⟩
    obtain ⟨npl, x, y, ns, hp, hl, hx, hy, hy2, hn⟩ := id hP
    refine ⟨fun σ' H' => PoolAt H' p l ∧ Ext [p, l] H H' ∧ ∃ a b c, σ' = [some (.ref p), some (.int m), a, b, c], ?_, ?_⟩
    · refine ⟨_, rfl, _, _, _, _, rfl, rfl, .of hp, atI_nat (j := 0) rfl, rfl, _, rfl, ite2 (fun e => ?_) (fun e => ?_)⟩
      · refine ⟨_, rfl, _, _, _, _, rfl, rfl, .of hp, atI_nat (j := 2) rfl, by decide, fun c hc => ?_⟩
        have s1 : Ext [] H (upd H c (.lst [])) := .new hc
        refine ⟨_, _, .lst (.of (s1.at hl (by simp))) (dp_ints ns), .lst (.of upd_same) .nil, shaped_ints ns, by decide, _, rfl, ?_⟩
        rw [eqv_nil]
        cases ns with
        | nil =>
          rw [decide_eq_true rfl]
          exact iteF ⟨hP.ext0 s1, s1.weak, _, _, _, rfl⟩
        | cons n r =>
          rw [decide_eq_false (by simp)]
          refine iteT ?_
          have hp1 := s1.at hp (by simp)
          have hl1 := s1.at hl (by simp)
          -- cell
          refine ⟨_, rfl, _, _, _, _, rfl, rfl, .of hp1, atI_nat (j := 2) rfl, .inl ⟨rfl, _, .of hl1⟩, l, _, 0, 0, .int n, rfl, rfl, hl1, by decide, by decide, (by simp [seqIndex?]), rfl, .inl ⟨_, rfl, ?_⟩⟩
          have hp2 : upd (upd H c (.lst [])) l (.lst (((n :: r).map V.int).eraseIdx 0)) p = some (.lst [.int x, .int y, .ref l]) := by rw [upd_ne npl]; exact hp1
          have hl2 : upd (upd H c (.lst [])) l (.lst (((n :: r).map V.int).eraseIdx 0)) l = some (.lst (r.map V.int)) := upd_same
          have s2 : Ext [p, l] H (upd (upd H c (.lst [])) l (.lst (((n :: r).map V.int).eraseIdx 0))) := s1.weak.trans (.wr (by simp))
          generalize upd (upd H c (.lst [])) l (.lst (((n :: r).map V.int).eraseIdx 0)) = H2 at hp2 hl2 s2
          -- size
          refine ⟨fun v H1 => H1 = H2 ∧ ∃ z : Int, 0 ≤ z ∧ v = .int z, ?_, ?_⟩
          · refine ⟨_, rfl, _, _, rfl, rfl, _, rfl, ite2 (fun e => ?_) (fun e => ?_)⟩
            · have e := of_decide_eq_true e
              exact ⟨_, rfl, _, _, rfl, rfl, .inl ⟨by decide, by decide⟩, rfl, _, by omega, rfl⟩
            · have e : ¬ (0 ≤ n) := fun z => e (decide_eq_true z)
              exact ⟨_, rfl, _, rfl, _, _, rfl, rfl, .inl ⟨by decide, by decide⟩, _, _, rfl, rfl, rfl, _, by omega, rfl⟩
          · rintro v H1 ⟨rfl, z, hz, rfl⟩
            -- pool[0]
            refine ⟨fun v H' => H' = H1 ∧ ∃ x : Int, 0 ≤ x ∧ v = .int x, ?_, ?_⟩
            · refine ⟨_, rfl, _, _, rfl, rfl, ⟨by decide, by decide, by decide⟩, _, _, rfl, rfl, _, rfl, ite2 (fun e => ?_) (fun e => ?_)⟩
              · exact ⟨_, rfl, rfl, z, hz, rfl⟩
              · exact ⟨rfl, 0, by omega, rfl⟩
            · rintro v H' ⟨rfl, x2, hx2, rfl⟩
              refine ⟨_, rfl, p, _, 0, 0, rfl, rfl, hp2, rfl, ?_⟩
              -- pool[1]
              refine ⟨_, rfl, _, _, _, _, rfl, rfl, .of upd_same, atI_nat (j := 1) rfl, _, rfl, _, _, rfl, rfl, .inr ⟨by decide, by decide⟩, _, _, rfl, rfl, .inl ⟨_, rfl, _, _, rfl, rfl, (by show (0:Int) < 2147483629; decide), _, _, rfl, rfl, ?_⟩⟩
              refine ⟨_, rfl, p, _, 1, 1, rfl, rfl, upd_same, rfl, ?_⟩
              rw [upd_upd]
              refine ⟨⟨npl, x2, _, r, upd_same, by rw [upd_ne npl.symm]; exact hl2, hx2, ?_, ?_, ?_⟩, s2.trans (.wr (by simp)), _, _, _, rfl⟩
              · omega
              · omega
              · simp at hn; omega
      · exact iteF ⟨hP, .refl, _, _, _, rfl⟩
    · rintro σ' H1 ⟨⟨npl, x, y, ns, hp, hl, hx, hy, hy2, hn⟩, e1, a, b, c, rfl⟩
      refine ⟨_, rfl, _, _, _, _, rfl, rfl, .of hp, atI_nat (j := 0) rfl, _, _, rfl, rfl, _, rfl, ite2 (fun e => ?_) (fun e => ?_)⟩
      · refine ⟨_, rfl, _, _, _, _, rfl, rfl, .of hp, atI_nat (j := 0) rfl, .inl ⟨_, rfl, _, rfl, _, _, rfl, rfl, hm, ?_⟩⟩
        refine ⟨_, rfl, _, _, _, _, rfl, rfl, .of hp, atI_nat (j := 0) rfl, _, rfl, _, _, rfl, rfl, ⟨hm, hm2⟩, _, rfl, p, _, 0, 0, rfl, rfl, hp, rfl, ?_⟩
        refine ⟨_, rfl, q _ _ (Int.emod_nonneg _ (by omega)) (Int.emod_lt_of_pos _ hm) ⟨npl, x / m, y, ns, upd_same, by rw [upd_ne npl.symm]; exact hl, Int.ediv_nonneg hx (by omega), hy, hy2, hn⟩ (e1.trans (.wr (by simp)))⟩
      · refine ⟨_, rfl, _, _, _, _, rfl, rfl, .of hp, atI_nat (j := 1) rfl, _, _, rfl, rfl, .inr ⟨by decide, by decide⟩, _, _, rfl, rfl, .inl ⟨_, rfl, _, _, rfl, rfl, (by show (0:Int) < 2147483647; decide), ?_⟩⟩
        refine ⟨_, rfl, p, _, 1, 1, rfl, rfl, hp, rfl, ?_⟩
        have yb : 0 ≤ (y * 48271 + 11) % 2147483647 ∧ (y * 48271 + 11) % 2147483647 < 2147483647 := by omega
        refine ⟨_, rfl, _, _, _, _, rfl, rfl, .of upd_same, atI_nat (j := 1) rfl, _, rfl, _, _, _, _, rfl, rfl, .of upd_same, atI_nat (j := 1) rfl, _, _, rfl, rfl, .inl ⟨by omega, by omega⟩, .inl ⟨_, rfl, _, _, rfl, rfl, (by show (0:Int) < 2147483629; decide), _, _, rfl, rfl, ⟨by decide, by decide⟩, _, rfl, _, _, rfl, rfl, hm, ?_⟩⟩
        exact q _ _ (Int.emod_nonneg _ (by omega)) (Int.emod_lt_of_pos _ hm) ⟨npl, x, _, ns, upd_same, by rw [upd_ne npl.symm]; exact hl, hx, yb.1, by omega, hn⟩ (e1.trans (.wr (by simp)))
theorem sc_law_pick : FnScope ["pool", "things"] ["pool", "things"] (defScope s_law_pick) := ⟨rfl, rfl, rfl, by decide +kernel, rfl, by decide +kernel, by decide +kernel⟩
def sp_law_pick (K : PySem.W.Frag) : Sp := fun vs H Q _ => ∃ (p l t : Addr) (xs : List V), vs = [.ref p, .ref t] ∧ PoolAt H p l ∧ SqL K H t xs ∧ t ≠ p ∧ t ≠ l ∧ 0 < xs.length ∧ xs.length < 1000 ∧ ∀ (i : Nat) (v : V) (H' : Hp), xs[i]? = some v → PoolAt H' p l → Ext [p, l] H H' → Q v H'
theorem ok_law_pick (T : Tx K mg) : FnOk P w K mg base CX0 2 T.law_pick.f T.law_pick.fd ["pool", "things"] (sp_law_pick K) := by
  refine T.law_pick.F.ok sc_law_pick (fun vs H Q E h => ?_) (fun cdv A outer s H vs Q E hr h => ?_)
  · obtain ⟨p, l, t, xs, rfl, _⟩ := h; rfl
  · obtain ⟨p, l, t, xs, rfl, hP, hS, n1, n2, h0, h1, q⟩ := h
    refine ⟨_, (pss_one (ps_ret (pe_ix ix_list (pv 1) (pe_call (ok_law_draw T) (hr.mono (by decide)) (by rfl) T.law_draw.g T.law_draw.F.kp T.law_draw.b .nil pass0 (pa_cons (pv 0) (pa_cons (pe_callB call_len_seq (by rfl) T.n_len PySem.boot_len (pa_cons (pv 1) pa_nil)) pa_nil))) (fun _ _ => rfl)))), ?_⟩
    refine ⟨_, rfl, _, rfl, _, rfl, t, xs, rfl, .inl hS, p, l, _, rfl, hP, by omega, by omega, fun r H' r0 r1 hP' e => ?_⟩
    obtain ⟨i, rfl⟩ : ∃ i : Nat, r = (i : Int) := ⟨r.toNat, by omega⟩
    have hi : i < xs.length := by omega
    exact ⟨t, xs, _, xs[i], rfl, rfl, e.frz (by simp [n1, n2]) hS, atI_nat (List.getElem?_eq_getElem hi), q i _ _ (List.getElem?_eq_getElem hi) hP' e⟩
end
end Nv
set_option Elab.async false
set_option linter.all false
set_option maxRecDepth 100000
namespace Nv
open PySem PySem.Spec PyProof.Rows L2
section
variable {P : Program} {w : World} {K : PySem.W.Frag} {mg : Str → Option Value} {base : Heap}
/-! ### the law's books: meeting -/
theorem sc_law_book_meeting : FnScope ["moves", "found", "at", "message", "to", "state"] ["moves"] (defScope s_law_book_meeting) := ⟨rfl, rfl, rfl, by decide +kernel, rfl, by decide +kernel, by decide +kernel⟩
def sp_law_book_meeting (K : PySem.W.Frag) : Sp := fun vs H Q _ => ∃ (m : V) (b : Book), vs = [m] ∧ LbV K H m b ∧ 1 ≤ b.length ∧ b.length ≤ 1000 ∧ (∀ s, (mvs b s).length ≤ 1000 ∧ ∀ p ∈ mvs b s, p.2 < b.length) ∧ ∀ (F : List Nat) (v : V) (H' : Hp), Met b F → BkV K H' v (rename b F) → Ext [] H H' → Q v H'
theorem ok_law_book_meeting (T : Tx K mg) : FnOk P w K mg base CX0 1 T.law_book_meeting.f T.law_book_meeting.fd ["moves"] (sp_law_book_meeting K) := by
  refine T.law_book_meeting.F.ok sc_law_book_meeting (fun vs H Q E h => ?_) (fun cdv A outer s H vs Q E hr h => ?_)
  · obtain ⟨m, b, rfl, _⟩ := h; rfl
  · obtain ⟨_, b, rfl, ⟨m, ls, rfl, hm, hls⟩, h1, h2, hto, q⟩ := h
    have llen : ls.length = b.length := Paired.len hls
    refine ⟨_, (pss_cons (ps_set (i := 1) sc_law_book_meeting.nd rfl (.inr rfl) (pe_lst (pa_cons pe_int pa_nil)))
      (C8.pss_cut (ps_for PassesOwn.never rfl (pi_range1 (by rfl) T.n_range (pa_cons (pe_callB call_len_seq (by rfl) T.n_len PySem.boot_len (pa_cons (pv 0) pa_nil)) pa_nil)) (pg_name (i := 2) sc_law_book_meeting.nd rfl (.inl rfl))
        (pss_cons (ps_if (pt_cmpR op_eq (pv 2) (pe_callB call_len_seq (by rfl) T.n_len PySem.boot_len (pa_cons (pv 1) pa_nil)) (nomark _))
          (pss_one ps_break)
          pss_nil)
        (pss_one (ps_for PassesOwn.never rfl (pi_list (pe_ix ix_list (pv 0) (pe_ix ix_list (pv 1) (pv 2) (fun _ _ => rfl)) (fun _ _ => rfl))) (pg_tup rfl (pgs_cons (pg_name (i := 3) sc_law_book_meeting.nd rfl (.inl rfl)) (pgs_cons (pg_name (i := 4) sc_law_book_meeting.nd rfl (.inl rfl)) pgs_nil)))
          (pss_one (ps_if (pt_cmpR op_notIn_seq (pv 4) (pv 1) (by rfl))
            (pss_one (ps_expr (pe_bm PySem.F.plainAttrs_list PySem.F.slot_list_append PySem.F.type_list_append mt_append (pv 1) (pa_cons (pv 4) pa_nil))))
            pss_nil))))))
      (pss_one (ps_ret (pe_callTy call_tupZ (by rfl) T.n_tuple (by decide +kernel) (pa_cons (pe_lc (own := [("state", 5)]) rfl sc_law_book_meeting.nd (pi_list (pv 1)) (blkOk_by (own := [("state", 5)]) (N := ["moves", "found", "at", "message", "to", "state"]) (sc := defScope s_law_book_meeting) (by decide +kernel)) (fun _ _ _ _ _ => (pg_name (i := 5) sc_law_book_meeting.nd rfl (.inl rfl))) (fun _ _ _ _ _ => pts_nil) (fun _ _ _ _ _ => (pe_callTy (call_tupZK K) (by rfl) T.n_tuple (by decide +kernel) (pa_cons (pe_lc (own := [("message", 3), ("to", 4)]) rfl sc_law_book_meeting.nd (pi_listK K (pe_ix (ix_listK K) (pv 0) (pv 5) (fun _ _ => rfl))) (blkOk_by (own := [("message", 3), ("to", 4)]) (by kernel_rfl)) (fun _ _ _ _ _ => (pg_tupK (n := 2) K rfl (pgs_cons (pg_name (i := 3) sc_law_book_meeting.nd rfl (.inl rfl)) (pgs_cons (pg_name (i := 4) sc_law_book_meeting.nd rfl (.inl rfl)) pgs_nil)))) (fun _ _ _ _ _ => pts_nil) (fun _ _ _ _ _ => (pe_tup (pa_cons (pv 3) (pa_cons (pe_bmK K PySem.F.plainAttrs_list PySem.F.slot_list_index PySem.F.type_list_index (mt_indexK K) (pv 1) (pa_cons (pv 4) pa_nil)) pa_nil))))) pa_nil)))) pa_nil)))))), ?_⟩
    -- found = [0]
    refine ⟨(by show 1 ≤ sizeLine; decide), fun f hf => ?_⟩
    have e0 : Ext [] H (upd H f (.lst [.int 0])) := .new hf
    have mf : m ≠ f := ne_of_none hm hf
    refine ⟨fun σ H' => ∃ (F : List Nat) (y2 y3 y4 : Option V), σ = [some (.ref m), some (.ref f), y2, y3, y4, none] ∧ Met b F ∧ Ext [] H H' ∧ H' f = some (.lst (F.map nV)), ?_, ?_⟩
    · refine ⟨_, rfl, m, ls, rfl, .inl (.of (e0.at hm (by simp))), _, rfl, by omega, by omega, for_range (lo := 0) (n := _) (fun i σ H' => ∃ (F : List Nat) (y2 y3 y4 : Option V), σ = [some (.ref m), some (.ref f), y2, y3, y4, none] ∧ MetI b F i ∧ Ext [] H H' ∧ H' f = some (.lst (F.map nV))) ⟨[0], _, _, _, rfl, .first h1, e0, upd_same⟩ ?_ ?_⟩
      · rintro i σ H' hi ⟨F, y2, y3, y4, rfl, mi, e, hF⟩
        simp only [Int.zero_add]
        have hin : i < b.length := by
          have : ((ls.length : Int)).toNat = ls.length := Int.toNat_natCast _
          omega
        -- if at == len(found)
        refine ⟨_, rfl, _, rfl, f, _, rfl, .inl (.of hF), rfl, _, rfl, ?_⟩
        rw [dec_int]
        refine ite2 (fun z => ?_) (fun z => ?_)
        · have z := of_decide_eq_true z
          rw [List.length_map] at z
          exact ⟨F, _, _, _, rfl, mi.met (.inl (by omega)), e, hF⟩
        · have z : ¬ ((i : Int) = ((F.map nV).length : Int)) := fun y => z (decide_eq_true y)
          rw [List.length_map] at z
          have hiF : i < F.length := by have := mi.le; omega
          have hs : F[i]? = some F[i] := List.getElem?_eq_getElem hiF
          generalize F[i] = x at hs
          have hx : x < b.length := mi.lt x (List.mem_of_getElem? hs)
          -- for message, to in moves[found[at]]
          obtain ⟨u, hu, hst⟩ := Paired.get hls (mvs_lt hx)
          obtain ⟨a, ps, rfl, ha, hps⟩ := hst
          refine ⟨_, rfl, _, rfl, _, rfl, f, _, _, _, rfl, rfl, .of hF, atI_nat (at_map hs), m, _, _, _, rfl, rfl, .of (e.at hm (by simp)), atI_nat hu, a, rfl, ⟨_, .of (e.at ha (by simp))⟩, ?_⟩
          have plen : ps.length = (mvs b x).length := Paired.len hps
          refine for_list (K := K) (a := a) (xs := ps.map V.ref) (fun k σ H' => ∃ (F : List Nat) (y3 y4 : Option V), σ = [some (.ref m), some (.ref f), some (.int i), y3, y4, none] ∧ MetW b F i x k ∧ Ext [] H H' ∧ H' f = some (.lst (F.map nV))) ⟨F, _, _, rfl, mi.begin hs, e, hF⟩ (fun k σ H' _ ⟨_, _, _, _, _, e, _⟩ => .of (e.at ha (by simp))) ?_ ?_
          · rintro k v σ H' hv ⟨F, y3, y4, rfl, mw, e, hF⟩
            obtain ⟨c, hc, rfl⟩ := map_at hv
            obtain ⟨p, hp, hcp⟩ := Paired.get' hps hc
            have hcp := hcp.ext0 e
            refine ⟨c, _, rfl, hcp, rfl, _, _, rfl, _, _, rfl, rfl, ?_⟩
            refine ⟨_, rfl, _, rfl, f, _, rfl, .inl (.of hF), rfl, flat_nV F, _, rfl, ?_⟩
            have pb : p.2 < b.length := (hto x).2 p (List.mem_of_getElem? hp)
            rw [show inV (V.int (p.2 : Int)) (F.map nV) = decide (p.2 ∈ F) from inV_nV p.2 F]
            by_cases hin : p.2 ∈ F
            · rw [decide_eq_true hin]
              exact iteF ⟨F, _, _, rfl, mw.skip hp hin, e, hF⟩
            · rw [decide_eq_false hin]
              have hl1000 : F.length ≤ 1000 := Nat.le_trans (nodup_le mw.nd mw.lt) h2
              refine iteT ⟨_, rfl, .inl ⟨rfl, _, .of hF⟩, _, rfl, f, _, _, rfl, rfl, hF, by rw [List.length_map]; exact small1000 hl1000, F ++ [p.2], _, _, rfl, mw.push hp hin pb, e.put hf, ?_⟩
              rw [upd_same, List.map_append]
              rfl
          · rintro σ H' ⟨F, y3, y4, rfl, mw, e, hF⟩
            exact ⟨F, _, _, _, rfl, mw.done (by rw [List.length_map, plen]; exact Nat.le_refl _), e, hF⟩
      · rintro σ H' ⟨F, y2, y3, y4, rfl, mi, e, hF⟩
        exact ⟨F, _, _, _, rfl, mi.met (.inr (by rw [Int.toNat_natCast, llen])), e, hF⟩
    · rintro σ H1 ⟨F, y2, y3, y4, rfl, mt, e1, hF⟩
      have hl1000 : F.length ≤ 1000 := Nat.le_trans (nodup_le mt.nd mt.lt) h2
      -- the new book
      refine ⟨_, rfl, f, rfl, ⟨_, .of hF⟩, fun D hD => ?_⟩
      have fD : f ≠ D := ne_of_none hF hD
      have hDH : H D = none := e1.free hD
      refine lc_list (K := K) (a := f) (xs := F.map nV) (fun i H' => ∃ vs : List V, H' D = some (.lst vs) ∧ Paired (StV K H') vs ((rename b F).take i) ∧ Ext [] H H' ∧ H' f = some (.lst (F.map nV))) ⟨[], upd_same, .nil, e1.put2 hD, by rw [upd_ne fD]; exact hF⟩ (fun i H' _ ⟨_, _, _, _, h⟩ => .of h) ?_ ?_
      · rintro i v H' hv ⟨vs, hDv, hpd, e, hF'⟩
        obtain ⟨x, hx, rfl⟩ := map_at hv
        have hxb : x < b.length := mt.lt x (List.mem_of_getElem? hx)
        obtain ⟨u, hu, a, ps, rfl, ha, hps⟩ := Paired.get hls (mvs_lt hxb)
        have plen : ps.length = (mvs b x).length := Paired.len hps
        refine ⟨rfl, yes ?_⟩
        refine ⟨_, rfl, _, rfl, m, _, _, _, rfl, rfl, .of (e.at hm (by simp)), atI_nat hu, a, rfl, ⟨_, .of (e.at ha (by simp))⟩, fun D2 hD2 => ?_⟩
        have hD2H : H D2 = none := e.free hD2
        have n1 : D ≠ D2 := ne_of_none hDv hD2
        have n2 : f ≠ D2 := ne_of_none hF' hD2
        refine lc_list (K := K) (a := a) (xs := ps.map V.ref) (fun k H2 => ∃ qs : List Addr, H2 D2 = some (.lst (qs.map V.ref)) ∧ Paired (MvV K H2) qs (((mvs b x).take k).map fun p => (p.1, F.idxOf p.2)) ∧ Ext [] H' H2) ⟨[], upd_same, .nil, .new hD2⟩ (fun k H2 _ ⟨_, _, _, e2⟩ => .of ((e.trans e2).at ha (by simp))) ?_ ?_
        · rintro k v H2 hv ⟨qs, hq, hqp, e2⟩
          obtain ⟨c, hc, rfl⟩ := map_at hv
          obtain ⟨p, hp, hcp⟩ := Paired.get' hps hc
          have hcp := hcp.ext0 (e.trans e2)
          have hF2 := e2.at hF' (by simp)
          have pin : p.2 ∈ F := mt.cl x (List.mem_of_getElem? hx) p (List.mem_of_getElem? hp)
          have hidx : F.idxOf p.2 < F.length := List.idxOf_lt_length_of_mem pin
          refine ⟨c, _, rfl, hcp, rfl, _, _, rfl, _, _, rfl, rfl, rfl, yes ?_⟩
          refine ⟨_, rfl, _, rfl, .inl ⟨rfl, _, .of hF2⟩, _, rfl, f, _, _, F.idxOf p.2, nV p.2, rfl, rfl, .of hF2, rfl, flat_nV F, ?_, by rw [show V.int (p.2 : Int) = nV p.2 from rfl, eqV_nV]; simp, ?_, ?_⟩
          · exact at_map (by rw [List.getElem?_eq_getElem hidx, List.getElem_idxOf])
          · intro j z hj hz
            obtain ⟨y, hy, rfl⟩ := map_at hz
            rw [show V.int (p.2 : Int) = nV p.2 from rfl, eqV_nV]
            refine decide_eq_false fun ey => ?_
            subst ey
            have := idx_of mt.nd hy
            omega
          · refine ⟨(by show 2 ≤ sizeLine; decide), fun t ht => ?_⟩
            have tD2 : D2 ≠ t := ne_of_none hq ht
            have e3 : Ext [] H2 (upd H2 t (.tup [.int p.1, .int (F.idxOf p.2 : Nat)])) := .new ht
            refine ⟨_, e3.at hq (by simp), ?_, qs ++ [t], by rw [upd_same, List.map_append]; rfl, ?_, (e2.trans e3).put hD2⟩
            · rw [List.length_map, Paired.len hqp, List.length_map, List.length_take]
              exact small1000 (Nat.le_trans (Nat.min_le_right _ _) (hto x).1)
            · rw [List.take_add_one, hp, List.map_append]
              refine Paired.snoc ?_ (Paired.imp hqp fun _ _ z => (z.ext0 e3).put (e3.at hq (by simp)))
              exact MvV.put (m := (p.1, F.idxOf p.2)) (.of upd_same) (e3.at hq (by simp))
        · rintro H2 ⟨qs, hq, hqp, e2⟩
          have ek : (mvs b x).take (ps.map V.ref).length = mvs b x := List.take_of_length_le (by rw [List.length_map, plen]; exact Nat.le_refl _)
          rw [ek] at hqp
          refine ⟨D2, _, rfl, .of hq, fun t H3 ht hH3 => ?_⟩
          obtain ⟨o, od, rfl⟩ := hH3
          have e3 : Ext [] H2 (upd H2 t (.frz o (.tup (qs.map V.ref)))) := .new ht
          have e4 := e2.trans e3
          refine ⟨vs, e4.at hDv (by simp), ?_, vs ++ [.ref t], upd_same, ?_, (e.trans e4).put hDH, by rw [upd_ne fD]; exact e4.at hF' (by simp)⟩
          · rw [Paired.len hpd, List.length_take]
            exact small1000 (Nat.le_trans (Nat.min_le_right _ _) (by rw [rename_len]; exact hl1000))
          · have hr' : (rename b F)[i]? = some ((mvs b x).map fun p => (p.1, F.idxOf p.2)) := by
              unfold rename
              rw [List.getElem?_map, hx]
              rfl
            rw [List.take_add_one, hr']
            have hDe := e4.at hDv (by simp)
            refine Paired.snoc ?_ (Paired.imp hpd fun _ _ z => (z.ext0 e4).put hDe)
            exact StV.put ⟨t, qs, rfl, ⟨o, upd_same, od⟩, Paired.imp hqp fun _ _ z => z.ext0 e3⟩ hDe
      · rintro H' ⟨vs, hDv, hpd, e, hF'⟩
        refine ⟨D, vs, rfl, .of hDv, fun t H3 ht hH3 => ?_⟩
        obtain ⟨o, od, rfl⟩ := hH3
        have e3 : Ext [] H' (upd H' t (.frz o (.tup vs))) := .new ht
        have ek : (rename b F).take (F.map nV).length = rename b F := List.take_of_length_le (by rw [List.length_map, rename_len]; exact Nat.le_refl _)
        rw [ek] at hpd
        exact q F _ _ mt ⟨t, vs, rfl, .inl (.inr ⟨o, upd_same⟩), Paired.imp hpd fun _ _ z => z.ext0 e3⟩ (e.trans e3)
end
end Nv
set_option Elab.async false
set_option linter.all false
set_option maxRecDepth 100000
namespace Nv
open PySem PySem.Spec PyProof.Rows L2
section
variable {P : Program} {w : World} {K : PySem.W.Frag} {mg : Str → Option Value} {base : Heap}
/-! ### the law's books: messages -/
theorem seqAt {k n : Nat} (h : k < n) : seqIndex? (k : Int) n = some k := by
  unfold seqIndex?
  have h1 : ¬ ((k : Int) < 0) := by omega
  have h2 : (0 : Int) ≤ k := by omega
  have h3 : (k : Int) < n := by omega
  simp [h1, h2, h3]
theorem sorted_nats {F : List Nat} {ns : List Int} (nd : F.Nodup) (p : ns.Perm (F.map fun n : Nat => (n : Int))) (r : ns.Pairwise (· ≤ ·)) : ∃ ms : List Nat, ns.map V.int = ms.map nV ∧ ms.Perm F ∧ ms.Pairwise (· < ·) := by
  have nn : ∀ z ∈ ns, ∃ n : Nat, z = (n : Int) := fun z hz => by
    obtain ⟨n, _, rfl⟩ := List.mem_map.mp (p.mem_iff.mp hz)
    exact ⟨n, rfl⟩
  have nd2 : ns.Nodup := by
    rw [p.nodup_iff]
    refine List.Pairwise.map _ (fun a b h e => h ?_) nd
    exact Int.ofNat.inj e
  have r2 := lt_of_le_nodup ns r nd2
  refine ⟨ns.map Int.toNat, ?_, ?_, ?_⟩
  · rw [List.map_map]
    refine List.map_congr_left fun z hz => ?_
    obtain ⟨n, rfl⟩ := nn z hz
    rfl
  · have q := p.map Int.toNat
    rw [List.map_map] at q
    have e : F.map (Int.toNat ∘ fun n : Nat => (n : Int)) = F := by
      conv => rhs; rw [← List.map_id F]
      exact List.map_congr_left fun z _ => rfl
    rw [e] at q
    exact q
  · rw [List.pairwise_map]
    refine List.Pairwise.imp_of_mem (fun {a b} ha hb h => ?_) r2
    obtain ⟨n, rfl⟩ := nn a ha
    obtain ⟨m, rfl⟩ := nn b hb
    simp
    omega
theorem map_nV_int (F : List Nat) : F.map nV = (F.map fun n : Nat => (n : Int)).map V.int := by rw [List.map_map]; rfl
theorem rgV_nV (n : Nat) : rgV 0 (n : Int) = (List.range n).map nV := by
  unfold rgV
  simp
theorem sc_law_book_messages : FnScope ["pool", "count", "way", "top", "left", "found", "turn"] ["pool", "count"] (defScope s_law_book_messages) := ⟨rfl, rfl, rfl, by decide +kernel, rfl, by decide +kernel, by decide +kernel⟩
def sp_law_book_messages : Sp := fun vs H Q _ => ∃ (p l : Addr) (c : Nat), vs = [.ref p, .int c] ∧ PoolAt H p l ∧ c ≤ 6 ∧ ∀ (ms : List Nat) (t : Addr) (H' : Hp), ms.Pairwise (· < ·) → ms.length = c → (∀ m ∈ ms, m ≤ 99) → H' t = some (.lst (ms.map nV)) → H t = none → PoolAt H' p l → Ext [p, l] H H' → Q (.ref t) H'
theorem ok_law_book_messages (T : Tx K mg) : FnOk P w K mg base CX0 2 T.law_book_messages.f T.law_book_messages.fd ["pool", "count"] sp_law_book_messages := by
  refine T.law_book_messages.F.ok sc_law_book_messages (fun vs H Q E h => ?_) (fun cdv A outer s H vs Q E hr h => ?_)
  · obtain ⟨p, l, c, rfl, _⟩ := h; rfl
  · obtain ⟨p, l, c, rfl, hP, hc, q⟩ := h
    refine ⟨_, (pss_cons (ps_set (i := 2) sc_law_book_messages.nd rfl (.inl rfl) (pe_call (ok_law_draw T) (hr.mono (by decide)) (by rfl) T.law_draw.g T.law_draw.F.kp T.law_draw.b .nil pass0 (pa_cons (pv 0) (pa_cons pe_int pa_nil))))
      (C8.pss_cut (ps_set (i := 3) sc_law_book_messages.nd rfl (.inl rfl) (pe_ix ix_list (pe_lst (pa_cons (pv 1) (pa_cons (pv 1) (pa_cons (pe_callB (call_min2 rfl) (by rfl) T.n_min (by decide +kernel) (pa_cons (pe_op op_add (pv 1) pe_int) (pa_cons pe_int pa_nil))) (pa_cons pe_int pa_nil))))) (pv 2) (fun _ _ => rfl)))
      (pss_cons (ps_par (i := 4) (j := 5) (by rfl) sc_law_book_messages.nd rfl rfl (by decide) rfl rfl (pa_cons (pe_listRg rfl (by rfl) T.n_list (prg_1 (by rfl) T.n_range (pv 3))) (pa_cons (pe_lst pa_nil) pa_nil)) (by rfl))
      (pss_cons (ps_for PassesOwn.never rfl (pi_range1 (by rfl) T.n_range (pa_cons (pv 1) pa_nil)) (pg_name (i := 6) sc_law_book_messages.nd rfl (.inl rfl))
        (pss_one (ps_expr (pe_bm PySem.F.plainAttrs_list PySem.F.slot_list_append PySem.F.type_list_append mt_append (pv 5) (pa_cons (pe_bm PySem.F.plainAttrs_list PySem.F.slot_list_pop PySem.F.type_list_pop mt_popAt (pv 4) (pa_cons (pe_mid (pe_ifExp (pt_cmpR op_lt (pv 2) pe_int (nomark _)) (pe_call (ok_law_draw T) (hr.mono (by decide)) (by rfl) T.law_draw.g T.law_draw.F.kp T.law_draw.b .nil pass0 (pa_cons (pv 0) (pa_cons (pe_callB call_len_seq (by rfl) T.n_len PySem.boot_len (pa_cons (pv 4) pa_nil)) pa_nil))) (pe_op op_sub (pe_op op_sub (pe_callB call_len_seq (by rfl) T.n_len PySem.boot_len (pa_cons (pv 4) pa_nil)) pe_int) (pe_call (ok_law_draw T) (hr.mono (by decide)) (by rfl) T.law_draw.g T.law_draw.F.kp T.law_draw.b .nil pass0 (pa_cons (pv 0) (pa_cons pe_int pa_nil)))))) pa_nil)) pa_nil)))))
      (pss_one (ps_ret (pe_callB cr_sorted (by rfl) T.n_sorted (by decide +kernel) (pa_cons (pv 5) pa_nil)))))))), ?_⟩
    -- way
    refine ⟨_, rfl, p, l, 4, rfl, hP, by decide, by decide, fun r H1 r0 r1 P1 e1 => ?_⟩
    -- top
    refine ⟨fun σ H' => ∃ top : Nat, σ = [some (.ref p), some (.int c), some (.int r), some (.int top), none, none, none] ∧ c ≤ top ∧ top ≤ 100 ∧ (r < 3 ∨ top = 100) ∧ PoolAt H' p l ∧ Ext [p, l] H H', ?_, ?_⟩
    · refine ⟨_, rfl, _, rfl, _, rfl, _, _, rfl, rfl, _, _, rfl, (by show 4 ≤ sizeLine; decide), fun d hd => ?_⟩
      have e2 : Ext [] H1 (upd H1 d (.lst [.int c, .int c, .int (if (6 : Int) < (c : Int) + 2 then 6 else (c : Int) + 2), .int 100])) := .new hd
      have m : ∃ t : Nat, (if (6 : Int) < (c : Int) + 2 then 6 else (c : Int) + 2) = t ∧ c ≤ t ∧ t ≤ 100 := by
        by_cases h : (6 : Int) < (c : Int) + 2
        · rw [if_pos h]; exact ⟨6, rfl, hc, by decide⟩
        · rw [if_neg h]; exact ⟨c + 2, by simp, by omega, by omega⟩
      obtain ⟨t, ht, t1, t2⟩ := m
      have four : r = 0 ∨ r = 1 ∨ r = 2 ∨ r = 3 := by omega
      have pe := P1.ext0 e2
      have ee := e1.trans e2.weak
      rcases four with rfl | rfl | rfl | rfl
      · exact ⟨_, rfl, d, _, _, _, rfl, rfl, .of upd_same, atI_nat (j := 0) rfl, c, rfl, Nat.le_refl _, by omega, .inl (by decide), pe, ee⟩
      · exact ⟨_, rfl, d, _, _, _, rfl, rfl, .of upd_same, atI_nat (j := 1) rfl, c, rfl, Nat.le_refl _, by omega, .inl (by decide), pe, ee⟩
      · exact ⟨_, rfl, d, _, _, _, rfl, rfl, .of upd_same, atI_nat (j := 2) rfl, t, by rw [ht]; rfl, t1, t2, .inl (by decide), pe, ee⟩
      · exact ⟨_, rfl, d, _, _, _, rfl, rfl, .of upd_same, atI_nat (j := 3) rfl, 100, rfl, by omega, Nat.le_refl _, .inr rfl, pe, ee⟩
    · rintro σ H2 ⟨top, rfl, c1, c2, c3, P2, e2⟩
      -- left, found
      refine ⟨_, rfl, _, rfl, RgOk.of_le (by omega) (by omega) (by omega) (by omega), fun lf hlf => ⟨Nat.zero_le _, fun fd hfd => ⟨_, _, rfl, ?_⟩⟩⟩
      rw [rgV_nV] at hfd ⊢
      have e3 : Ext [] H2 (upd H2 lf (.lst ((List.range top).map nV))) := .new hlf
      have e4 := e3.trans (Ext.new (L := []) (o := .lst []) hfd)
      have nlf : fd ≠ lf := fun z => by rw [z, upd_same] at hfd; cases hfd
      have h2p : H2 p ≠ none := by obtain ⟨_, _, _, _, a, _⟩ := P2; rw [a]; simp
      have h2l : H2 l ≠ none := by obtain ⟨_, _, _, _, _, a, _⟩ := P2; rw [a]; simp
      have n1 : lf ≠ p := fun z => h2p (z ▸ hlf)
      have n2 : lf ≠ l := fun z => h2l (z ▸ hlf)
      have hfd2 := e3.free hfd
      have n3 : fd ≠ p := fun z => h2p (z ▸ hfd2)
      have n4 : fd ≠ l := fun z => h2l (z ▸ hfd2)
      have f1 : H lf = none := e2.free2 hlf (off2 n1 n2)
      have f2 : H fd = none := e2.free2 hfd2 (off2 n3 n4)
      -- the loop
      refine ⟨_, rfl, _, rfl, by omega, by omega, for_range (lo := 0) (n := _) (fun i σ H' => ∃ (L F : List Nat) (y : Option V), σ = [some (.ref p), some (.int c), some (.int r), some (.int top), some (.ref lf), some (.ref fd), y] ∧ H' lf = some (.lst (L.map nV)) ∧ H' fd = some (.lst (F.map nV)) ∧ (F ++ L).Perm (List.range top) ∧ F.length = i ∧ PoolAt H' p l ∧ Ext [p, l] H H')
        ⟨List.range top, [], _, rfl, by rw [upd_ne nlf.symm, upd_same], upd_same, .refl _, rfl, P2.ext0 e4, e2.trans e4.weak⟩ ?_ ?_⟩
      · rintro i σ H' hi ⟨L, F, y, rfl, hL, hF, hperm, hFl, P', e'⟩
        have hi : i < c := by have : ((c : Int)).toNat = c := Int.toNat_natCast _; omega
        have tot : F.length + L.length = top := by have := hperm.length_eq; simpa using this
        have Lpos : 0 < L.length := by omega
        refine ⟨_, rfl, .inl ⟨rfl, _, .of hF⟩, _, rfl, .inl ⟨rfl, _, .of hL⟩, ?_⟩
        -- the index
        refine ⟨fun v H3 => ∃ k : Nat, v = .int k ∧ k < L.length ∧ H3 lf = some (.lst (L.map nV)) ∧ H3 fd = some (.lst (F.map nV)) ∧ PoolAt H3 p l ∧ Ext [p, l] H H3, ?_, ?_⟩
        · refine ⟨_, rfl, _, _, rfl, rfl, _, rfl, ite2 (fun z => ?_) (fun z => ?_)⟩
          · refine ⟨_, rfl, _, rfl, lf, _, rfl, .inl (.of hL), p, l, _, rfl, P', by rw [List.length_map]; omega, by rw [List.length_map]; omega, fun k H3 k0 k1 P3 e3' => ?_⟩
            rw [List.length_map] at k1
            exact ⟨k.toNat, by rw [Int.toNat_of_nonneg k0], by omega, e3' _ _ (off2 n1 n2) hL, e3' _ _ (off2 n3 n4) hF, P3, e'.trans e3'⟩
          · have z : ¬ r < 3 := fun w => z (decide_eq_true w)
            have t100 : top = 100 := by rcases c3 with c3 | c3; exact absurd c3 z; exact c3
            refine ⟨_, rfl, lf, _, rfl, .inl (.of hL), _, _, rfl, rfl, _, rfl, p, l, 3, rfl, P', by decide, by decide, fun k H3 k0 k1 P3 e3' => ?_⟩
            refine ⟨_, _, rfl, rfl, (L.length - 1 - k.toNat), ?_, by omega, e3' _ _ (off2 n1 n2) hL, e3' _ _ (off2 n3 n4) hF, P3, e'.trans e3'⟩
            have e5 : ((L.map nV).length : Int) - 1 - k = ((L.length - 1 - k.toNat : Nat) : Int) := by
              rw [List.length_map]
              omega
            exact congrArg V.int e5
        · rintro v H3 ⟨k, rfl, hk, hL3, hF3, P3, e3'⟩
          have hy : L[k]? = some L[k] := List.getElem?_eq_getElem hk
          generalize L[k] = y at hy
          refine ⟨lf, _, _, k, nV y, rfl, rfl, hL3, by omega, by omega, by rw [List.length_map]; exact seqAt hk, at_map hy, ?_⟩
          have el : (L.map nV).eraseIdx k = (L.eraseIdx k).map nV := eraseIdx_nV nV L k
          rw [el]
          have hF4 : upd H3 lf (.lst ((L.eraseIdx k).map nV)) fd = some (.lst (F.map nV)) := by rw [upd_ne nlf]; exact hF3
          refine ⟨fd, _, _, rfl, rfl, hF4, by rw [List.length_map]; exact small1000 (by omega), L.eraseIdx k, F ++ [y], _, rfl, by rw [upd_ne nlf.symm, upd_same], ?_, ?_, ?_, ?_, ?_⟩
          · rw [upd_same, List.map_append]; rfl
          · rw [List.append_assoc]
            exact (List.Perm.append_left F (erase_perm L k y hy)).trans hperm
          · rw [List.length_append, hFl]; rfl
          · refine P3.ext (L := [lf, fd]) ((Ext.wr (by simp)).trans (.wr (by simp))) ?_ ?_
            · simp [n1.symm, n3.symm]
            · simp [n2.symm, n4.symm]
          · exact (e3'.put' f1).put' f2
      · rintro σ H' ⟨L, F, y, rfl, hL, hF, hperm, hFl, P', e'⟩
        rw [Int.toNat_natCast] at hFl
        have nd : F.Nodup := (List.nodup_append.mp (hperm.nodup_iff.mpr List.nodup_range)).1
        refine ⟨_, rfl, fd, F.map (fun n : Nat => (n : Int)), rfl, .of (by rw [← map_nV_int]; exact hF), by rw [List.length_map]; omega, fun ns t perm rise ht => ?_⟩
        obtain ⟨ms, e1', e2', e3'⟩ := sorted_nats nd perm rise
        rw [e1']
        have ft : H t = none := e'.free2 ht (off2 (fun z => ?_) (fun z => ?_))
        · refine q ms t _ e3' (by rw [e2'.length_eq]; exact hFl) (fun m hm => ?_) upd_same ft (P'.ext (L := [t]) (.wr (by simp)) ?_ ?_) (e'.put' ft)
          · have h1 := hperm.mem_iff.mp (List.mem_append_left L (e2'.mem_iff.mp hm))
            have := List.mem_range.mp h1
            omega
          · obtain ⟨_, _, _, _, a, _⟩ := P'
            simp
            exact fun z => by rw [z, ht] at a; cases a
          · obtain ⟨_, _, _, _, _, a, _⟩ := P'
            simp
            exact fun z => by rw [z, ht] at a; cases a
        · obtain ⟨_, _, _, _, a, _⟩ := P'
          rw [← z, ht] at a; cases a
        · obtain ⟨_, _, _, _, _, a, _⟩ := P'
          rw [← z, ht] at a; cases a
end
end Nv
set_option Elab.async false
set_option linter.all false
set_option maxRecDepth 100000
namespace Nv
open PySem PySem.Spec PyProof.Rows L2
section
variable {P : Program} {w : World} {K : PySem.W.Frag} {mg : Str → Option Value} {base : Heap}
/-! ### the law's books: drawn -/
theorem PoolAt.off {H : Hp} {p l x : Addr} (h : PoolAt H p l) (hx : H x = none) : x ≠ p ∧ x ≠ l := by
  obtain ⟨_, _, _, _, a, b, _⟩ := h
  refine ⟨fun z => ?_, fun z => ?_⟩
  · rw [z, a] at hx
    cases hx
  · rw [z, b] at hx
    cases hx
theorem PoolAt.put {H : Hp} {p l x : Addr} {o : HO} (h : PoolAt H p l) (h1 : x ≠ p) (h2 : x ≠ l) : PoolAt (upd H x o) p l := h.ext (L := [x]) (.wr (by simp)) (by simp; exact h1.symm) (by simp; exact h2.symm)
structure StD (n m : Nat) (s : State) : Prop where
  few : s.length ≤ m
  rise : (s.map (·.1)).Pairwise (· < ·)
  msg : ∀ q ∈ s, q.1 ≤ 99
  to : ∀ q ∈ s, q.2 < n
theorem StD.set {n m : Nat} {s : State} (h : StD n m s) {k : Nat} {q : Nat × Nat} (hq : s[k]? = some q) {t : Nat} (ht : t < n) : StD n m (s.set k (q.1, t)) := by
  have hm := List.mem_of_getElem? hq
  have e : (s.set k (q.1, t)).map (·.1) = s.map (·.1) := by
    rw [List.map_set]
    refine List.ext_getElem? fun i => ?_
    by_cases hi : k = i
    · subst hi
      have hk : k < (s.map (·.1)).length := by
        rw [List.length_map]
        exact (List.getElem?_eq_some_iff.mp hq).1
      rw [List.getElem?_set_self hk, List.getElem?_map, hq]
      rfl
    · rw [List.getElem?_set_ne hi]
  refine ⟨by rw [List.length_set]; exact h.few, by rw [e]; exact h.rise, fun z hz => ?_, fun z hz => ?_⟩
  · rcases List.mem_or_eq_of_mem_set hz with hz | rfl
    · exact h.msg z hz
    · exact h.msg q hm
  · rcases List.mem_or_eq_of_mem_set hz with hz | rfl
    · exact h.to z hz
    · exact ht
theorem sc_law_book_drawn : FnScope ["pool", "states", "most", "size", "way", "moves", "state", "count", "told", "message", "to", "at"] ["pool", "states", "most"] (defScope s_law_book_drawn) := ⟨rfl, rfl, rfl, by decide +kernel, rfl, by decide +kernel, by decide +kernel⟩
def sp_law_book_drawn (K : PySem.W.Frag) : Sp := fun vs H Q _ => ∃ (p l : Addr) (S M : Nat), vs = [.ref p, .int S, .int M] ∧ PoolAt H p l ∧ 1 ≤ S ∧ S ≤ 8 ∧ M ≤ 5 ∧ ∀ (b : Book) (v : V) (H' : Hp), OkB b → b.length ≤ S → (∀ s ∈ b, s.length ≤ M) → BkV K H' v b → PoolAt H' p l → Ext [p, l] H H' → Q v H'
theorem ok_law_book_drawn (T : Tx K mg) : FnOk P w K mg base CX0 3 T.law_book_drawn.f T.law_book_drawn.fd ["pool", "states", "most"] (sp_law_book_drawn K) := by
  refine T.law_book_drawn.F.ok sc_law_book_drawn (fun vs H Q E h => ?_) (fun cdv A outer s H vs Q E hr h => ?_)
  · obtain ⟨p, l, S, M, rfl, _⟩ := h; rfl
  · obtain ⟨p, l, S, M, rfl, hP, hS1, hS8, hM, q⟩ := h
    refine ⟨_, (pss_cons (ps_par3 (i := 3) (j := 4) (l := 5) rfl sc_law_book_drawn.nd rfl rfl rfl (by decide) (by decide) (by decide) rfl rfl rfl (pa_cons (pe_op op_add pe_int (pe_call (ok_law_draw T) (hr.mono (by decide)) (by rfl) T.law_draw.g T.law_draw.F.kp T.law_draw.b .nil pass0 (pa_cons (pv 0) (pa_cons (pv 1) pa_nil)))) (pa_cons (pe_call (ok_law_draw T) (hr.mono (by decide)) (by rfl) T.law_draw.g T.law_draw.F.kp T.law_draw.b .nil pass0 (pa_cons (pv 0) (pa_cons pe_int pa_nil))) (pa_cons (pe_lst pa_nil) pa_nil))) (by rfl))
      (pss_cons (ps_for PassesOwn.never rfl (pi_range1 (by rfl) T.n_range (pa_cons (pv 3) pa_nil)) (pg_name (i := 6) sc_law_book_drawn.nd rfl (.inl rfl))
        (pss_cons (ps_set (i := 7) sc_law_book_drawn.nd rfl (.inl rfl) (pe_call (ok_law_pick T) (hr.mono (by decide)) (by rfl) T.law_pick.g T.law_pick.F.kp T.law_pick.b .nil pass0 (pa_cons (pv 0) (pa_cons (pe_lst (pa_cons pe_int (pa_cons pe_int (pa_cons pe_int (pa_cons pe_int (pa_cons (pe_callB (call_min2 rfl) (by rfl) T.n_min (by decide +kernel) (pa_cons pe_int (pa_cons (pv 2) pa_nil))) (pa_cons (pe_call (ok_law_draw T) (hr.mono (by decide)) (by rfl) T.law_draw.g T.law_draw.F.kp T.law_draw.b .nil pass0 (pa_cons (pv 0) (pa_cons (pe_op op_add (pv 2) pe_int) pa_nil))) pa_nil))))))) pa_nil))))
        (C8.pss_cut (ps_if (PW.pt (pw_and (pt_cmpR op_gt (pv 4) pe_int (nomark _)) (pw_and1 (pt_cmpR op_eq (pv 6) (pe_op op_sub (pv 3) pe_int) (nomark _)))))
          (pss_one (ps_set (i := 7) sc_law_book_drawn.nd rfl (.inl rfl) pe_int))
          pss_nil)
        (pss_cons (ps_set (i := 8) sc_law_book_drawn.nd rfl (.inl rfl) (pe_lst pa_nil))
        (pss_cons (ps_for PassesOwn.never rfl (pi_list (pe_call (ok_law_book_messages T) (hr.mono (by decide)) (by rfl) T.law_book_messages.g T.law_book_messages.F.kp T.law_book_messages.b .nil pass0 (pa_cons (pv 0) (pa_cons (pe_callB (call_min2 rfl) (by rfl) T.n_min (by decide +kernel) (pa_cons (pv 7) (pa_cons (pv 2) pa_nil))) pa_nil)))) (pg_name (i := 9) sc_law_book_drawn.nd rfl (.inl rfl))
          (pss_cons (ps_set (i := 10) sc_law_book_drawn.nd rfl (.inl rfl) (pe_call (ok_law_draw T) (hr.mono (by decide)) (by rfl) T.law_draw.g T.law_draw.F.kp T.law_draw.b .nil pass0 (pa_cons (pv 0) (pa_cons (pv 3) pa_nil))))
          (C8.pss_cut (ps_if (PW.pt (pw_and (pt_cmpR op_gt (pv 4) pe_int (nomark _)) (pw_and1 (pt_cmpR op_lt (pv 6) (pe_op op_sub (pv 3) pe_int) (nomark _)))))
            (pss_one (ps_set (i := 10) sc_law_book_drawn.nd rfl (.inl rfl) (pe_op op_add (pe_op op_add (pv 6) pe_int) (pe_call (ok_law_draw T) (hr.mono (by decide)) (by rfl) T.law_draw.g T.law_draw.F.kp T.law_draw.b .nil pass0 (pa_cons (pv 0) (pa_cons (pe_op op_sub (pe_op op_sub (pv 3) pe_int) (pv 6)) pa_nil))))))
            pss_nil)
          (pss_one (ps_expr (pe_bm PySem.F.plainAttrs_list PySem.F.slot_list_append PySem.F.type_list_append mt_append (pv 8) (pa_cons (pe_tup (pa_cons (pv 9) (pa_cons (pv 10) pa_nil))) pa_nil)))))))
        (C8.pss_cut (ps_if (PW.pt (pw_and (pt_cmpR op_gt (pv 4) pe_int (nomark _)) (pw_and1 (pt_cmpR (op_neD (hr.units)) (pv 8) (pe_lst pa_nil) (nomark _)))))
          (pss_cons (ps_set (i := 11) sc_law_book_drawn.nd rfl (.inl rfl) (pe_call (ok_law_draw T) (hr.mono (by decide)) (by rfl) T.law_draw.g T.law_draw.F.kp T.law_draw.b .nil pass0 (pa_cons (pv 0) (pa_cons (pe_callB call_len_seq (by rfl) T.n_len PySem.boot_len (pa_cons (pv 8) pa_nil)) pa_nil))))
          (pss_one (ps_asg (pe_tup (pa_cons (pe_ix ix_tup (pe_ix ix_list (pv 8) (pv 11) (fun _ _ => rfl)) pe_int (fun _ _ => rfl)) (pa_cons (pe_mid (pe_ifExp (pt_cmpR op_lt (pv 4) pe_int (nomark _)) (pe_op op_mod (pe_callTy call_int1 (by rfl) T.n_int (by decide +kernel) (pa_cons (pe_op op_add (pv 6) pe_int) pa_nil)) (pv 3)) (pe_callB (call_min2 rfl) (by rfl) T.n_min (by decide +kernel) (pa_cons (pe_op op_add (pv 6) pe_int) (pa_cons (pe_op op_sub (pv 3) pe_int) pa_nil))))) pa_nil))) (pg_sub (pv 8) (pv 11) set_list))))
          pss_nil)
        (pss_one (ps_expr (pe_bm PySem.F.plainAttrs_list PySem.F.slot_list_append PySem.F.type_list_append mt_append (pv 5) (pa_cons (pv 8) pa_nil))))))))))
      (pss_one (ps_ret (pe_call (ok_law_book_meeting T) (hr.mono (by decide)) (by rfl) T.law_book_meeting.g T.law_book_meeting.F.kp T.law_book_meeting.b .nil pass0 (pa_cons (pv 5) pa_nil)))))), ?_⟩
    -- size, way, moves
    refine ⟨_, rfl, _, rfl, p, l, _, rfl, hP, by omega, by omega, fun r H1 r0 r1 P1 e1 => ⟨_, _, rfl, rfl, ?_⟩⟩
    refine ⟨_, rfl, p, l, 6, rfl, P1, by decide, by decide, fun way H2 w0 w1 P2 e2 => ⟨Nat.zero_le _, fun mv hmv => ⟨_, _, _, rfl, ?_⟩⟩⟩
    obtain ⟨n, hn⟩ : ∃ n : Nat, 1 + r = (n : Int) := ⟨(1 + r).toNat, by omega⟩
    have hn1 : 1 ≤ n := by omega
    have hnS : n ≤ S := by omega
    show _
    simp only [hn]
    obtain ⟨mp, ml⟩ := P2.off hmv
    have fmv : H mv = none := (e1.trans e2).free2 hmv (off2 mp ml)
    -- the loop
    refine ⟨_, rfl, _, rfl, by omega, by omega, for_range (lo := 0) (n := _) (fun i σ H' => ∃ (vs : List V) (b : Book) (y6 y7 y8 y9 y10 y11 : Option V), σ = [some (.ref p), some (.int S), some (.int M), some (.int n), some (.int way), some (.ref mv), y6, y7, y8, y9, y10, y11] ∧ b.length = i ∧
      H' mv = some (.lst vs) ∧ Paired (LsN K H' [p, l, mv]) vs b ∧ (∀ s ∈ b, StD n M s) ∧ PoolAt H' p l ∧ Ext [p, l] H H')
      ⟨[], [], _, _, _, _, _, _, rfl, rfl, upd_same, .nil, (fun s z => nomatch z), P2.put mp ml, (e1.trans e2).put' fmv⟩ ?_ ?_⟩
    · rintro i σ H' hi ⟨vs, b, y6, y7, y8, y9, y10, y11, rfl, hbl, hv, hpd, hst, P', e'⟩
      have hi : i < n := by have : ((n : Int)).toNat = n := Int.toNat_natCast _; omega
      simp only [Int.zero_add]
      -- count
      refine ⟨_, rfl, _, rfl, _, _, rfl, _, rfl, _, rfl, _, _, rfl, rfl, p, l, _, rfl, P', by omega, by omega, fun c0 H3 c00 c01 P3 e3 => ?_⟩
      refine ⟨(by show 6 ≤ sizeLine; decide), fun t ht => ?_⟩
      obtain ⟨tp, tl⟩ := P3.off ht
      refine ⟨p, l, t, _, rfl, P3.put tp tl, .of upd_same, tp, tl, (by show 0 < 6; decide), (by show 6 < 1000; decide), fun k v H4 hk P4 e4 => ?_⟩
      have hc : ∃ c : Nat, v = .int c ∧ c ≤ 5 := by
        have six : k < 6 := (List.getElem?_eq_some_iff.mp hk).1
        have : k = 0 ∨ k = 1 ∨ k = 2 ∨ k = 3 ∨ k = 4 ∨ k = 5 := by omega
        rcases this with rfl | rfl | rfl | rfl | rfl | rfl
        · exact ⟨1, (Option.some.inj hk).symm, by decide⟩
        · exact ⟨1, (Option.some.inj hk).symm, by decide⟩
        · exact ⟨2, (Option.some.inj hk).symm, by decide⟩
        · exact ⟨2, (Option.some.inj hk).symm, by decide⟩
        · have z := (Option.some.inj hk).symm
          by_cases hm : (M : Int) < 2
          · rw [if_pos hm] at z; exact ⟨M, z, by omega⟩
          · rw [if_neg hm] at z; exact ⟨2, z, by decide⟩
        · exact ⟨c0.toNat, by rw [(Option.some.inj hk).symm, Int.toNat_of_nonneg c00], by omega⟩
      obtain ⟨c, rfl, hc5⟩ := hc
      have e5 : Ext [p, l] H' H4 := (e3.trans (Ext.weak (.new ht))).trans e4
      have hpd4 : Paired (LsN K H4 [p, l, mv]) vs b := Paired.imp hpd fun _ _ z => z.ext e5 (by simp) P'.lsts
      have hv4 := e5 _ _ (off2 mp ml) hv
      have e6 := e'.trans e5
      generalize hH : H4 = H5 at *
      clear hH e5 e4 e3 hk ht P' hv hpd P3
      -- if way > 3 and state == size - 1
      refine ⟨fun σ H' => ∃ c : Nat, c ≤ 5 ∧ H' = H5 ∧ σ = [some (.ref p), some (.int S), some (.int M), some (.int n), some (.int way), some (.ref mv), some (.int i), some (.int c), y8, y9, y10, y11], ?_, ?_⟩
      · refine ⟨_, rfl, _, _, rfl, rfl, _, rfl, ite2 (fun z => ?_) (fun z => iteF ⟨c, hc5, rfl, rfl⟩)⟩
        refine ⟨_, rfl, _, rfl, _, _, rfl, rfl, rfl, _, rfl, ite2 (fun z => ?_) (fun z => ?_)⟩
        · exact ⟨0, by decide, rfl, rfl⟩
        · exact ⟨c, hc5, rfl, rfl⟩
      · rintro σ Hb ⟨c, hc5, rfl, rfl⟩
        -- told = []
        refine ⟨Nat.zero_le _, fun td htd => ?_⟩
        obtain ⟨tdp, tdl⟩ := P4.off htd
        have tdmv : td ≠ mv := fun z => by rw [z, hv4] at htd; cases htd
        have b0 : Ext [p, l] Hb (upd Hb td (.lst [])) := Ext.weak (.new htd)
        -- for message in ..
        have hmin : ∃ d : Nat, (if (M : Int) < (c : Int) then (M : Int) else (c : Int)) = d ∧ d ≤ M ∧ d ≤ 5 := by
          by_cases hm : (M : Int) < (c : Int)
          · rw [if_pos hm]; exact ⟨M, rfl, Nat.le_refl _, hM⟩
          · rw [if_neg hm]; exact ⟨c, rfl, by omega, hc5⟩
        obtain ⟨d, hd, hdM, hd5⟩ := hmin
        refine ⟨_, rfl, _, rfl, _, rfl, _, _, rfl, p, l, d, by rw [hd]; rfl, P4.put tdp tdl, by omega, fun ms t H6 m1 m2 m3 ht tfree P6 e6' => ?_⟩
        have b1 := b0.trans e6'
        have ttd : t ≠ td := fun z => by rw [z, upd_same] at tfree; cases tfree
        obtain ⟨ttp, ttl⟩ := (P4.put (o := .lst []) tdp tdl).off tfree
        have htd6 : H6 td = some (.lst []) := e6' _ _ (off2 tdp tdl) upd_same
        refine ⟨t, rfl, ⟨_, .of ht⟩, for_list (K := K) (a := t) (xs := ms.map nV) (fun k σ H' => ∃ (ps : List Addr) (tl : State) (y9 y10 : Option V), σ = [some (.ref p), some (.int S), some (.int M), some (.int n), some (.int way), some (.ref mv), some (.int i), some (.int c), some (.ref td), y9, y10, y11] ∧
          H' td = some (.lst (ps.map V.ref)) ∧ Paired (MvV K H') ps tl ∧ tl.map (·.1) = ms.take k ∧ (∀ z ∈ tl, z.2 < n) ∧ H' t = some (.lst (ms.map nV)) ∧ PoolAt H' p l ∧ Ext [p, l] Hb H')
          ⟨[], [], _, _, rfl, htd6, .nil, by simp, (fun z hz => nomatch hz), ht, P6, b1⟩ (fun k σ H' _ ⟨_, _, _, _, _, _, _, _, _, h, _⟩ => .of h) ?_ ?_⟩
        · rintro k v σ H' hv ⟨ps, tl, y9, y10, rfl, htd', hps, hmap, hto, ht', P', e8⟩
          obtain ⟨m, hm, rfl⟩ := map_at hv
          have ntd : td ∉ [p, l] := off2 tdp tdl
          have nt : t ∉ [p, l] := off2 ttp ttl
          refine ⟨_, rfl, _, rfl, p, l, _, rfl, P', by omega, by omega, fun t0 H7 t00 t01 P7 e7 => ?_⟩
          refine ⟨fun σ H8 => ∃ u : Nat, u < n ∧ σ = [some (.ref p), some (.int S), some (.int M), some (.int n), some (.int way), some (.ref mv), some (.int i), some (.int c), some (.ref td), some (nV m), some (.int u), y11] ∧ PoolAt H8 p l ∧ Ext [p, l] H7 H8, ?_, ?_⟩
          · have stay : ∃ u : Nat, u < n ∧ ([some (.ref p), some (.int S), some (.int M), some (.int n), some (.int way), some (.ref mv), some (.int i), some (.int c), some (.ref td), some (nV m), some (.int t0), y11] : L2.St) = [some (.ref p), some (.int S), some (.int M), some (.int n), some (.int way), some (.ref mv), some (.int i), some (.int c), some (.ref td), some (nV m), some (.int u), y11] ∧ PoolAt H7 p l ∧ Ext [p, l] H7 H7 :=
              ⟨t0.toNat, by omega, by rw [Int.toNat_of_nonneg t00], P7, .refl⟩
            refine ⟨_, rfl, _, _, rfl, rfl, _, rfl, ite2 (fun z => ?_) (fun z => iteF stay)⟩
            refine ⟨_, rfl, _, rfl, _, _, rfl, rfl, _, _, rfl, rfl, _, rfl, ite2 (fun z2 => ?_) (fun z2 => stay)⟩
            have z2 := of_decide_eq_true z2
            refine ⟨_, rfl, _, _, rfl, rfl, _, rfl, _, rfl, _, _, rfl, rfl, _, rfl, _, _, rfl, rfl, p, l, _, rfl, P7, by omega, by omega, fun r8 H8 r80 r81 P8 e8 => ⟨_, _, rfl, rfl, ?_⟩⟩
            have eu : (i : Int) + 1 + r8 = ((i + 1 + r8.toNat : Nat) : Int) := by omega
            exact ⟨i + 1 + r8.toNat, by omega, congrArg (fun z : Int => ([some (.ref p), some (.int S), some (.int M), some (.int n), some (.int way), some (.ref mv), some (.int i), some (.int c), some (.ref td), some (nV m), some (.int z), y11] : L2.St)) eu, P8, e8⟩
          · rintro σ H8 ⟨u, hu, rfl, P8, e9⟩
            have e10 := e7.trans e9
            have htd8 := e10 _ _ ntd htd'
            have ht8 := e10 _ _ nt ht'
            have hps8 : Paired (MvV K H8) ps tl := Paired.imp hps fun _ _ z => e10.tup P'.lsts z
            refine ⟨_, rfl, .inl ⟨rfl, _, .of htd8⟩, _, rfl, _, rfl, (by show 2 ≤ sizeLine; decide), fun nt' hnt => ?_⟩
            have e11 : Ext [] H8 (upd H8 nt' (.tup [nV m, .int u])) := .new hnt
            have htd9 := e11.at htd8 (by simp)
            obtain ⟨ntp, ntl⟩ := P8.off hnt
            have tll : tl.length ≤ 6 := by
              have := congrArg List.length hmap
              rw [List.length_map, List.length_take] at this
              omega
            refine ⟨td, _, _, rfl, rfl, htd9, by rw [List.length_map, Paired.len hps]; exact small1000 (by omega), ps ++ [nt'], tl ++ [(m, u)], _, _, rfl, by rw [upd_same, List.map_append]; rfl, ?_, ?_, fun z hz => ?_, ?_, ?_, ?_⟩
            · refine Paired.snoc ?_ (Paired.imp hps8 fun _ _ z => (z.ext0 e11).put htd9)
              exact MvV.put (m := (m, u)) (.of upd_same) htd9
            · rw [List.take_add_one, hm, List.map_append, hmap]
              rfl
            · rcases List.mem_append.mp hz with hz | hz
              · exact hto z hz
              · obtain rfl := List.mem_singleton.mp hz
                exact hu
            · rw [upd_ne ttd]
              exact e11.at ht8 (by simp)
            · exact (P8.put ntp ntl).put tdp tdl
            · exact ((e8.trans e10).trans e11.weak).put' htd
        · rintro σ H7 ⟨ps, tl, y9, y10, rfl, htd7, hps, hmap, hto, ht7, P7, e7⟩
          rw [List.length_map, List.take_length] at hmap
          have tll : tl.length = d := by
            have := congrArg List.length hmap
            rw [List.length_map] at this
            omega
          have sd : StD n M tl := ⟨by omega, by rw [hmap]; exact m1, fun z hz => m3 _ (by rw [← hmap]; exact List.mem_map.mpr ⟨z, hz, rfl⟩), hto⟩
          refine ⟨fun σ H8 => ∃ (ps : List Addr) (tl : State) (y9 y10 y11 : Option V), σ = [some (.ref p), some (.int S), some (.int M), some (.int n), some (.int way), some (.ref mv), some (.int i), some (.int c), some (.ref td), y9, y10, y11] ∧
            H8 td = some (.lst (ps.map V.ref)) ∧ Paired (MvV K H8) ps tl ∧ StD n M tl ∧ PoolAt H8 p l ∧ Ext [p, l] Hb H8, ?_, ?_⟩
          · refine ⟨_, rfl, _, _, rfl, rfl, _, rfl, ite2 (fun z => ?_) (fun z => iteF ⟨ps, tl, _, _, _, rfl, htd7, hps, sd, P7, e7⟩)⟩
            refine ⟨_, rfl, Nat.zero_le _, fun x hx => ?_⟩
            have e8 : Ext [] H7 (upd H7 x (.lst [])) := .new hx
            have htd8 := e8.at htd7 (by simp)
            have hps8 : Paired (MvV K (upd H7 x (.lst []))) ps tl := Paired.imp hps fun _ _ z => z.ext0 e8
            have P8 := P7.ext0 e8
            refine ⟨_, _, .lst (.of htd8) (dp_mvs hps8), .lst (.of upd_same) .nil, shaped_mvs _, by decide, _, rfl, ?_⟩
            rw [eqv_mvs_nil]
            by_cases ee : tl = []
            · rw [decide_eq_true ee]
              exact iteF ⟨ps, tl, _, _, _, rfl, htd8, hps8, sd, P8, e7.trans e8.weak⟩
            · rw [decide_eq_false ee]
              have plen := Paired.len hps
              have tpos : 0 < tl.length := List.length_pos_iff.mpr ee
              refine iteT ⟨_, rfl, _, rfl, td, _, rfl, .inl (.of htd8), p, l, _, rfl, P8, by rw [List.length_map]; omega, by rw [List.length_map]; omega, fun k H9 k0 k1 P9 e9 => ?_⟩
              rw [List.length_map] at k1
              obtain ⟨k, rfl⟩ : ∃ j : Nat, k = (j : Int) := ⟨k.toNat, by omega⟩
              have hk : k < tl.length := by omega
              have hq : tl[k]? = some tl[k] := List.getElem?_eq_getElem hk
              generalize tl[k] = qq at hq
              have htd9 := e9 _ _ (off2 tdp tdl) htd8
              have hps9 : Paired (MvV K H9) ps tl := Paired.imp hps8 fun _ _ z => e9.tup P8.lsts z
              obtain ⟨a, ha, haq⟩ := Paired.get hps9 hq
              refine ⟨_, rfl, _, rfl, td, _, _, _, rfl, rfl, .of htd9, atI_nat (at_map ha), a, _, _, _, rfl, rfl, haq, atI_nat (j := 0) rfl, ?_⟩
              refine ⟨fun v H' => H' = H9 ∧ ∃ u : Nat, u < n ∧ v = .int u, ?_, ?_⟩
              · refine ⟨_, rfl, _, _, rfl, rfl, _, rfl, ite2 (fun z => ?_) (fun z => ?_)⟩
                · refine ⟨_, rfl, _, _, rfl, rfl, .inl ⟨_, rfl, _, rfl, _, _, rfl, rfl, (by show (0 : Int) < n; omega), rfl, (((i : Int) + 1) % n).toNat, ?_, ?_⟩⟩
                  · have := Int.emod_lt_of_pos ((i : Int) + 1) (show (0 : Int) < n by omega)
                    have := Int.emod_nonneg ((i : Int) + 1) (show (n : Int) ≠ 0 by omega)
                    omega
                  · show V.int (((i : Int) + 1) % n) = _
                    rw [Int.toNat_of_nonneg (Int.emod_nonneg _ (by omega))]
                · refine ⟨_, rfl, _, _, rfl, rfl, _, rfl, _, _, rfl, rfl, _, _, rfl, rfl, ?_⟩
                  by_cases hm : (n : Int) - 1 < (i : Int) + 1
                  · rw [if_pos hm]
                    exact ⟨n - 1, by omega, congrArg V.int (by omega)⟩
                  · rw [if_neg hm]
                    exact ⟨i + 1, by omega, rfl⟩
              · rintro v H' ⟨rfl, u, hu, rfl⟩
                refine ⟨(by show 2 ≤ sizeLine; decide), fun nt hnt => ?_⟩
                have e10 : Ext [] H' (upd H' nt (.tup [.int qq.1, .int u])) := .new hnt
                have htd10 := e10.at htd9 (by simp)
                obtain ⟨ntp, ntl⟩ := P9.off hnt
                refine ⟨_, rfl, _, rfl, td, _, _, k, rfl, rfl, htd10, ixNat (by rw [List.length_map]; omega), ps.set k nt, tl.set k (qq.1, u), _, _, _, rfl, ?_, ?_, sd.set hq hu, (P9.put ntp ntl).put tdp tdl, ((((e7.trans e8.weak).trans e9).trans e10.weak)).put' htd⟩
                · rw [upd_same, List.map_set]
                · refine Paired.set ?_ k (Paired.imp hps9 fun _ _ z => (z.ext0 e10).put htd10)
                  exact MvV.put (m := (qq.1, u)) (.of upd_same) htd10
          · rintro σ H8 ⟨ps, tl, y9, y10, y11, rfl, htd8, hps8, sd8, P8, e8⟩
            have hmv8 := e8 _ _ (off2 mp ml) hv4
            have hpd8 : Paired (LsN K H8 [p, l, mv]) vs b := Paired.imp hpd4 fun _ _ z => z.ext e8 (by simp) P4.lsts
            have l3 : Lsts [mv] H8 := one_lst hmv8
            refine ⟨_, rfl, .inl ⟨rfl, _, .of hmv8⟩, _, rfl, mv, _, _, rfl, rfl, hmv8, by rw [Paired.len hpd8]; exact small1000 (by omega), vs ++ [.ref td], b ++ [tl], _, _, _, _, _, _, rfl, by rw [List.length_append, hbl]; rfl, upd_same, ?_, fun s hs => ?_, P8.put mp ml, (e6.trans e8).put' fmv⟩
            · refine Paired.snoc ⟨td, ps, rfl, ?_, by rw [upd_ne tdmv]; exact htd8, Paired.imp hps8 fun _ _ z => z.put hmv8⟩ (Paired.imp hpd8 fun _ _ z => z.ext (Y := [mv]) (.wr (by simp)) (by simp) l3)
              simp [tdp, tdl, tdmv]
            · rcases List.mem_append.mp hs with hs | hs
              · exact hst s hs
              · obtain rfl := List.mem_singleton.mp hs
                exact sd8
    · rintro σ H' ⟨vs, b, y6, y7, y8, y9, y10, y11, rfl, hbl, hv, hpd, hst, P', e'⟩
      rw [Int.toNat_natCast] at hbl
      have hlb : LbV K H' (.ref mv) b := ⟨mv, vs, rfl, hv, Paired.imp hpd fun _ _ z => z.ls⟩
      have sd : ∀ s, StD n M (mvs b s) := fun s => by
        by_cases hs : s < b.length
        · exact hst _ (mvs_mem hs)
        · rw [mvs_out (by omega)]
          exact ⟨Nat.zero_le _, .nil, (fun z hz => nomatch hz), fun z hz => nomatch hz⟩
      refine ⟨_, rfl, .ref mv, b, rfl, hlb, by omega, by omega, fun s => ⟨Nat.le_trans (sd s).few (by omega), fun z hz => by rw [hbl]; exact (sd s).to z hz⟩, fun F v H3 mt hbk e3 => ?_⟩
      have ok := mt.okB (by omega) fun s hs => ⟨Nat.le_trans (sd s).few hM, (sd s).rise, (sd s).msg⟩
      refine q _ v _ ok (by rw [rename_len]; have := nodup_le mt.nd mt.lt; omega) (fun s hs => ?_) hbk (P'.ext0 e3) (e'.trans e3.weak)
      obtain ⟨x, _, rfl⟩ := List.mem_map.mp hs
      rw [List.length_map]
      exact (sd x).few
end
end Nv
set_option Elab.async false
set_option linter.all false
set_option maxRecDepth 100000
namespace Nv
open PySem PySem.Spec PyProof.Rows L2
section
variable {P : Program} {w : World} {K : PySem.W.Frag} {mg : Str → Option Value} {base : Heap}
/-! ### the program: books held -/
theorem notF {c : Bool} {A B : Prop} (h : c = true) (hb : B) : if (!c) = true then A else B := by
  rw [h]
  exact iteF hb
theorem sc_has_state_form : FnScope ["thing", "many", "last", "pair", "message", "to"] ["thing", "many"] (defScope s_has_state_form) := ⟨rfl, rfl, rfl, by decide +kernel, rfl, by decide +kernel, by decide +kernel⟩
def sp_has_state_form (K : PySem.W.Frag) : Sp := fun vs H Q _ => ∃ (v : V) (s : State) (n : Nat), vs = [v, .int n] ∧ StV K H v s ∧ StOk n s ∧ Q (.bl true) H
theorem ok_has_state_form (T : Tx K mg) : FnOk P w K mg base CX0 3 T.has_state_form.f T.has_state_form.fd ["thing", "many"] (sp_has_state_form K) := by
  refine T.has_state_form.F.ok sc_has_state_form (fun vs H Q E h => ?_) (fun cdv A outer s H vs Q E hr h => ?_)
  · obtain ⟨v, s, n, rfl, _⟩ := h; rfl
  · obtain ⟨v, st, n, rfl, ⟨a, ps, rfl, ha, hps⟩, ok, q⟩ := h
    have plen := Paired.len hps
    refine ⟨_, (pss_cons (ps_if (pt_not (pt_val (pe_call (ok_tuple_within T) (hr.mono (by decide)) (by rfl) T.tuple_within.g T.tuple_within.F.kp T.tuple_within.b .nil pass0 (pa_cons (pv 0) (pa_cons pe_int (pa_cons (pe_glob (v := .int 5) (by rfl) T.c_MOST_MESSAGES.choose_spec ⟨_, rfl⟩) pa_nil))))))
        (pss_one (ps_ret pe_bl))
        pss_nil)
      (pss_cons (ps_set (i := 2) sc_has_state_form.nd rfl (.inl rfl) (pe_un un_neg pe_int))
      (pss_cons (ps_for PassesOwn.never rfl (pi_tup (pv 0)) (pg_name (i := 3) sc_has_state_form.nd rfl (.inl rfl))
        (pss_cons (ps_if (pt_not (pt_val (pe_call (ok_tuple_within T) (hr.mono (by decide)) (by rfl) T.tuple_within.g T.tuple_within.F.kp T.tuple_within.b .nil pass0 (pa_cons (pv 3) (pa_cons pe_int (pa_cons pe_int pa_nil))))))
          (pss_one (ps_ret pe_bl))
          pss_nil)
        (pss_cons (ps_asg (pv 3) (pg_tup rfl (pgs_cons (pg_name (i := 4) sc_has_state_form.nd rfl (.inl rfl)) (pgs_cons (pg_name (i := 5) sc_has_state_form.nd rfl (.inl rfl)) pgs_nil))))
        (pss_cons (ps_if (PW.pt (pw_or (pt_not (pt_val (pe_call (ok_whole_within T) (hr.mono (by decide)) (by rfl) T.whole_within.g T.whole_within.F.kp T.whole_within.b .nil pass0 (pa_cons (pv 4) (pa_cons (pe_op op_add (pv 2) pe_int) (pa_cons (pe_glob (v := .int 99) (by rfl) T.c_GREATEST_MESSAGE.choose_spec ⟨_, rfl⟩) pa_nil)))))) (pw_or1 (pt_not (pt_val (pe_call (ok_whole_within T) (hr.mono (by decide)) (by rfl) T.whole_within.g T.whole_within.F.kp T.whole_within.b .nil pass0 (pa_cons (pv 5) (pa_cons pe_int (pa_cons (pe_op op_sub (pv 1) pe_int) pa_nil)))))))))
          (pss_one (ps_ret pe_bl))
          pss_nil)
        (pss_one (ps_set (i := 2) sc_has_state_form.nd rfl (.inl rfl) (pv 4)))))))
      (pss_one (ps_ret pe_bl))))), ?_⟩
    refine ⟨_, rfl, a, _, 0, 5, rfl, ha.sq, SqT.ty ha.sq, _, rfl, notF (decide_eq_true ⟨by omega, ?_⟩) ?_⟩
    · rw [List.length_map, plen]
      have := ok.few
      omega
    refine ⟨1, rfl, _, rfl, a, rfl, ⟨_, ha.sq⟩, for_tup (K := K) (a := a) (xs := ps.map V.ref) (fun k σ H' => H' = H ∧ ∃ (z : Int) (y3 y4 y5 : Option V), σ = [some (.ref a), some (.int n), some (.int z), y3, y4, y5] ∧ ∀ j q, k ≤ j → st[j]? = some q → z < (q.1 : Int))
      ⟨rfl, -1, _, _, _, rfl, fun j q _ _ => by omega⟩ (fun k σ H' _ ⟨e, _⟩ => by rw [e]; exact ha.sq) ?_ ?_⟩
    · rintro k v σ H' hv ⟨rfl, z, y3, y4, y5, rfl, hz⟩
      obtain ⟨c, hc, rfl⟩ := map_at hv
      obtain ⟨p, hp, hcp⟩ := Paired.get' hps hc
      have hm := List.mem_of_getElem? hp
      refine ⟨_, rfl, c, _, 2, 2, rfl, hcp, SqT.ty hcp, _, rfl, notF (by show decide ((2 : Int) ≤ 2 ∧ (2 : Int) ≤ 2) = true; decide) ?_⟩
      refine ⟨_, rfl, c, _, rfl, hcp, rfl, _, _, rfl, _, _, rfl, rfl, ?_⟩
      have b1 := hz k p (Nat.le_refl _) hp
      have b2 := ok.msg p hm
      have b3 := ok.to p hm
      refine ⟨_, rfl, _, rfl, _, _, rfl, rfl, _, _, _, rfl, _, rfl, notF (decide_eq_true ⟨by omega, by omega⟩) ?_⟩
      refine ⟨_, rfl, _, rfl, _, _, rfl, rfl, _, _, _, rfl, _, rfl, notF (decide_eq_true ⟨by omega, by omega⟩) ?_⟩
      refine ⟨_, rfl, rfl, _, _, _, _, rfl, fun j q hj hq => ?_⟩
      obtain ⟨hk, ek⟩ := List.getElem?_eq_some_iff.mp hp
      obtain ⟨hj2, ej⟩ := List.getElem?_eq_some_iff.mp hq
      have := List.pairwise_iff_getElem.mp ok.rise k j (by rw [List.length_map]; exact hk) (by rw [List.length_map]; exact hj2) (by omega)
      rw [List.getElem_map, List.getElem_map, ek, ej] at this
      omega
    · rintro σ H' ⟨rfl, z, y3, y4, y5, rfl, hz⟩
      exact q
theorem sc_check_form : FnScope ["thing", "state"] ["thing"] (defScope s_check_form) := ⟨rfl, rfl, rfl, by decide +kernel, rfl, by decide +kernel, by decide +kernel⟩
def sp_check_form (K : PySem.W.Frag) : Sp := fun vs H Q _ => ∃ (v : V) (b : Book), vs = [v] ∧ BkV K H v b ∧ FormB b ∧ Q .non H
theorem ok_check_form (T : Tx K mg) : FnOk P w K mg base CX0 4 T.check_form.f T.check_form.fd ["thing"] (sp_check_form K) := by
  refine T.check_form.F.ok sc_check_form (fun vs H Q E h => ?_) (fun cdv A outer s H vs Q E hr h => ?_)
  · obtain ⟨v, b, rfl, _⟩ := h; rfl
  · obtain ⟨v, b, rfl, ⟨a, ls, rfl, ha, hls⟩, ok, q⟩ := h
    have llen := Paired.len hls
    refine ⟨_, (pss_cons (ps_if (pt_not (pt_val (pe_call (ok_tuple_within T) (hr.mono (by decide)) (by rfl) T.tuple_within.g T.tuple_within.F.kp T.tuple_within.b .nil pass0 (pa_cons (pv 0) (pa_cons pe_int (pa_cons (pe_glob (v := .int 8) (by rfl) T.c_MOST_STATES.choose_spec ⟨_, rfl⟩) pa_nil))))))
        (pss_one ps_never)
        pss_nil)
      (pss_one (ps_for PassesOwn.never rfl (pi_range1 (by rfl) T.n_range (pa_cons (pe_callB call_len_seq (by rfl) T.n_len PySem.boot_len (pa_cons (pv 0) pa_nil)) pa_nil)) (pg_name (i := 1) sc_check_form.nd rfl (.inl rfl))
        (pss_one (ps_if (pt_not (pt_val (pe_call (ok_has_state_form T) (hr.mono (by decide)) (by rfl) T.has_state_form.g T.has_state_form.F.kp T.has_state_form.b .nil pass0 (pa_cons (pe_ix ix_tup (pv 0) (pv 1) (fun _ _ => rfl)) (pa_cons (pe_callB call_len_seq (by rfl) T.n_len PySem.boot_len (pa_cons (pv 0) pa_nil)) pa_nil)))))
          (pss_one ps_never)
          pss_nil))))), ?_⟩
    refine ⟨_, rfl, a, _, 1, 8, rfl, ha, SqT.ty ha, _, rfl, notF (decide_eq_true ?_) ?_⟩
    · have h1 := ok.one
      have h2 := ok.eight
      rw [llen]
      exact ⟨by omega, by omega⟩
    have h2 := ok.eight
    refine ⟨_, rfl, a, _, rfl, .inr ha, _, rfl, by omega, by omega, for_range (lo := 0) (n := _) (fun k σ H' => H' = H ∧ ∃ y : Option V, σ = [some (.ref a), y]) ⟨rfl, _, rfl⟩ ?_ ?_⟩
    · rintro k σ H' hk ⟨rfl, y, rfl⟩
      simp only [Int.zero_add]
      rw [Int.toNat_natCast] at hk
      obtain ⟨u, hu, hst⟩ := Paired.get hls (mvs_lt (b := b) (s := k) (by omega))
      refine ⟨_, rfl, _, rfl, a, _, _, _, rfl, rfl, ha, atI_nat hu, _, rfl, a, _, rfl, .inr ha, u, _, b.length, by rw [llen]; rfl, hst, ok.ok (by omega), _, rfl, notF rfl ⟨rfl, _, rfl⟩⟩
    · rintro σ H' ⟨rfl, y, rfl⟩
      exact q
theorem sc_first_rows : FnScope ["states", "start", "rows", "order", "done", "state", "message", "to"] ["states", "start"] (defScope s_first_rows) := ⟨rfl, rfl, rfl, by decide +kernel, rfl, by decide +kernel, by decide +kernel⟩
def sp_first_rows (K : PySem.W.Frag) : Sp := fun vs H Q _ => ∃ (v : V) (b : Book), vs = [v, .int 0] ∧ BkW K H v b ∧ FormB b ∧ ∀ (F : List Nat) (kvs : List (Key × V)) (d : Addr) (H' : Hp), Met b F → kvs.map (·.1) = F.map kN → H' d = some (.dK kvs) → Ext [] H H' → Q (.ref d) H'
theorem ok_first_rows (T : Tx K mg) : FnOk P w K mg base CX0 1 T.first_rows.f T.first_rows.fd ["states", "start"] (sp_first_rows K) := by
  refine T.first_rows.F.ok sc_first_rows (fun vs H Q E h => ?_) (fun cdv A outer s H vs Q E hr h => ?_)
  · obtain ⟨v, b, rfl, _⟩ := h; rfl
  · obtain ⟨v, b, rfl, ⟨a, ls, rfl, ha, hls⟩, ok, q⟩ := h
    have llen := Paired.len hls
    have h8 := ok.eight
    refine ⟨_, (pss_cons (ps_set (i := 2) sc_first_rows.nd rfl (.inl rfl) (pe_disp (pps_cons (pv 1) (pe_tup pa_nil) pps_nil) (by rfl) (by rfl) (fun z => by cases z) (by decide)))
      (pss_cons (ps_set (i := 3) sc_first_rows.nd rfl (.inl rfl) (pe_lst (pa_cons (pv 1) pa_nil)))
      (pss_cons (ps_set (i := 4) sc_first_rows.nd rfl (.inl rfl) pe_int)
      (pss_cons (ps_while PassesOwn.never (pt_cmpR op_lt (pv 4) (pe_callB call_len_seq (by rfl) T.n_len PySem.boot_len (pa_cons (pv 3) pa_nil)) (nomark _))
        (pss_cons (ps_set (i := 5) sc_first_rows.nd rfl (.inl rfl) (pe_ix ix_list (pv 3) (pv 4) (fun _ _ => rfl)))
        (pss_cons (ps_aug (i := 4) sc_first_rows.nd rfl (.inl rfl) pe_int ip_add)
        (pss_one (ps_for PassesOwn.never rfl (pi_tup (pe_ix ix_tup (pv 0) (pv 5) (fun _ _ => rfl))) (pg_tup rfl (pgs_cons (pg_name (i := 6) sc_first_rows.nd rfl (.inl rfl)) (pgs_cons (pg_name (i := 7) sc_first_rows.nd rfl (.inl rfl)) pgs_nil)))
          (pss_one (ps_if (pt_cmp (pc_dnotin (hu_of hr) (pv 7) (pv 2)))
            (pss_cons (ps_dput (hu_of hr) (pv 2) (pv 7) (pe_op op_catA (pe_dget (hu_of hr) (pv 2) (pv 5) (fun _ _ => rfl)) (pe_tup (pa_cons (pv 6) pa_nil))) rfl)
            (pss_one (ps_expr (pe_bm PySem.F.plainAttrs_list PySem.F.slot_list_append PySem.F.type_list_append mt_append (pv 3) (pa_cons (pv 7) pa_nil)))))
            pss_nil)))))))
      (pss_one (ps_ret (pv 2))))))), ?_⟩
    -- rows = {0: ()}
    refine fun d hd => ⟨_, rfl, Nat.zero_le _, fun t ht => ?_⟩
    have e1 : Ext [] H (upd H d (.dK [])) := .new hd
    have e2 := e1.trans (Ext.new (L := []) (o := .tup []) ht)
    have dt : d ≠ t := fun z => by rw [← z, upd_same] at ht; cases ht
    refine ⟨by rw [upd_ne dt, upd_same], [(kN 0, .ref t)], rfl, (by show 1 ≤ 15; decide), ?_⟩
    have e3 := e2.put (o := .dK (mergeK [] [(kN 0, .ref t)])) hd
    have hd3 : upd (upd (upd H d (.dK [])) t (.tup [])) d (.dK (mergeK [] [(kN 0, .ref t)])) d = some (.dK [(kN 0, .ref t)]) := upd_same
    have ht3 : upd (upd (upd H d (.dK [])) t (.tup [])) d (.dK (mergeK [] [(kN 0, .ref t)])) t = some (.tup []) := by rw [upd_ne dt.symm, upd_same]
    generalize upd (upd (upd H d (.dK [])) t (.tup [])) d (.dK (mergeK [] [(kN 0, .ref t)])) = H3 at *
    -- order = [0]
    refine ⟨_, rfl, (by show 1 ≤ sizeLine; decide), fun o ho => ?_⟩
    have ho0 : H o = none := e3.free ho
    have od : d ≠ o := ne_of_none hd3 ho
    have e4 := e3.put2 (o := .lst [.int 0]) ho
    -- the loop
    let Row : Hp → Nat → V → Prop := fun H' m v => ∃ (x : Addr) (xs : List V), v = .ref x ∧ SqT K H' x xs ∧ xs.length ≤ m
    refine ⟨fun m σ H' => ∃ (F : List Nat) (kvs : List (Key × V)) (i : Nat) (y4 y5 y6 : Option V), σ = [some (.ref a), some (.int 0), some (.ref d), some (.ref o), some (.int i), y4, y5, y6] ∧ MetI b F i ∧ m = b.length - i ∧ H' o = some (.lst (F.map nV)) ∧ H' d = some (.dK kvs) ∧ kvs.map (·.1) = F.map kN ∧ (∀ e ∈ kvs, Row H' F.length e.2) ∧ Ext [] H H',
      ⟨_, [0], [(kN 0, .ref t)], 0, _, _, _, rfl, .first ok.one, rfl, upd_same, by rw [upd_ne od]; exact hd3, rfl, fun e he => ?_, e4⟩, ?_⟩
    · obtain rfl := List.mem_singleton.mp he
      have ot : t ≠ o := ne_of_none ht3 ho
      exact ⟨t, [], rfl, .of (by rw [upd_ne ot]; exact ht3), Nat.zero_le _⟩
    rintro m σ H' ⟨F, kvs, i, y4, y5, y6, rfl, mi, rfl, hF, hD, hk, hrow, e⟩
    have Fle : F.length ≤ b.length := nodup_le mi.nd mi.lt
    refine ⟨_, rfl, _, rfl, o, _, rfl, .inl (.of hF), _, _, rfl, rfl, _, rfl, ite2 (fun z => ?_) (fun z => ?_)⟩
    · have z := of_decide_eq_true z
      rw [List.length_map] at z
      have hiF : i < F.length := by omega
      have hs : F[i]? = some F[i] := List.getElem?_eq_getElem hiF
      generalize F[i] = x at hs
      have hx : x < b.length := mi.lt x (List.mem_of_getElem? hs)
      obtain ⟨u, hu, c, ps, rfl, hc, hps⟩ := Paired.get hls (mvs_lt hx)
      have plen := Paired.len hps
      refine ⟨fun σ H' => ∃ (F : List Nat) (kvs : List (Key × V)) (y4 y5 y6 : Option V), σ = [some (.ref a), some (.int 0), some (.ref d), some (.ref o), some (.int (i + 1 : Nat)), y4, y5, y6] ∧ MetI b F (i + 1) ∧ H' o = some (.lst (F.map nV)) ∧ H' d = some (.dK kvs) ∧ kvs.map (·.1) = F.map kN ∧ (∀ e ∈ kvs, Row H' F.length e.2) ∧ Ext [] H H', ?_, ?_⟩
      · rintro σ' H' ⟨F, kvs, y4, y5, y6, rfl, mi, r⟩
        exact ⟨b.length - (i + 1), by omega, F, kvs, i + 1, _, _, _, rfl, mi, rfl, r⟩
      refine ⟨_, rfl, _, rfl, o, _, _, _, rfl, rfl, .of hF, atI_nat (at_map hs), ?_⟩
      refine ⟨_, rfl, _, _, rfl, rfl, ?_⟩
      refine ⟨_, rfl, _, rfl, a, _, _, _, rfl, rfl, e.tup Lsts.nil ha, atI_nat hu, c, rfl, ⟨_, (e.tup Lsts.nil hc)⟩, ?_⟩
      refine for_tup (K := K) (a := c) (xs := ps.map V.ref) (fun k σ H' => ∃ (F : List Nat) (kvs : List (Key × V)) (y5 y6 : Option V), σ = [some (.ref a), some (.int 0), some (.ref d), some (.ref o), some (.int ((i : Int) + 1)), some (nV x), y5, y6] ∧ MetW b F i x k ∧ H' o = some (.lst (F.map nV)) ∧ H' d = some (.dK kvs) ∧ kvs.map (·.1) = F.map kN ∧ (∀ e ∈ kvs, Row H' F.length e.2) ∧ Ext [] H H')
        ⟨F, kvs, _, _, rfl, mi.begin hs, hF, hD, hk, hrow, e⟩ (fun k σ H' _ ⟨_, _, _, _, _, _, _, _, _, _, e⟩ => (e.tup Lsts.nil hc)) ?_ ?_
      · rintro k v σ H' hv ⟨F, kvs, y5, y6, rfl, mw, hF, hD, hk, hrow, e⟩
        obtain ⟨g, hg, rfl⟩ := map_at hv
        obtain ⟨p, hp, hcp⟩ := Paired.get' hps hg
        have hcp := hcp.ext0 e
        have Fle : F.length ≤ b.length := nodup_le mw.nd mw.lt
        have pb : p.2 < b.length := ok.to (List.mem_of_getElem? hp)
        refine ⟨g, _, rfl, hcp, rfl, _, _, rfl, _, _, rfl, rfl, ?_⟩
        refine ⟨_, rfl, _, rfl, d, _, rfl, DGet.k (k := kN p.2) hD, _, rfl, ?_⟩
        rw [valV_key hk]
        by_cases hin : p.2 ∈ F
        · rw [decide_eq_true hin]
          exact iteF ⟨F, kvs, _, _, rfl, mw.skip hp hin, hF, hD, hk, hrow, e⟩
        · rw [decide_eq_false hin]
          refine iteT ?_
          -- rows[state] + (message,)
          have xin : x ∈ F := List.mem_of_getElem? mw.here
          have hsome : (valV kvs (kN x)).isSome = true := by rw [valV_key hk]; exact decide_eq_true xin
          obtain ⟨rv, hrv⟩ := Option.isSome_iff_exists.mp hsome
          obtain ⟨r, rs, er, hr1, hr2⟩ := hrow _ (valV_mem hrv)
          have er : rv = .ref r := er
          subst er
          have newk : valV kvs (kN p.2) = none := by
            have := valV_key hk p.2
            rw [decide_eq_false hin] at this
            cases h : valV kvs (kN p.2) with
            | none => rfl
            | some z => rw [h] at this; cases this
          have klen : kvs.length = F.length := by have := congrArg List.length hk; simpa using this
          -- behind the new row: the dict, the list
          have fin : ∀ (nr : Addr) (ys : List V) (H4 : Hp), Ext [] H' H4 → SqT K H4 nr ys → ys.length ≤ F.length + 1 → ∃ H5, DPut H4 d (.int p.2) (.ref nr) H5 ∧
              ∃ q5 : H5 = upd H4 d (.dK (kvs ++ [(kN p.2, .ref nr)])), H5 o = some (.lst (F.map nV)) ∧ H5 d = some (.dK (kvs ++ [(kN p.2, .ref nr)])) ∧ (∀ e ∈ kvs ++ [(kN p.2, .ref nr)], Row H5 (F.length + 1) e.2) ∧ Ext [] H H5 := by
            intro nr ys H4 e4 hn hl
            have hD4 := e4.at hD (by simp)
            have hF4 := e4.at hF (by simp)
            refine ⟨_, DPut.k (k := kN p.2) hD4 (small1000 (by omega)), by rw [putK_new _ newk], ?_⟩
            rw [putK_new _ newk]
            have ee : Ext [d] H4 (upd H4 d (.dK (kvs ++ [(kN p.2, .ref nr)]))) := .wr (by simp)
            refine ⟨by rw [upd_ne od.symm]; exact hF4, upd_same, fun z hz => ?_, (e.trans e4).put hd⟩
            rcases List.mem_append.mp hz with hz | hz
            · obtain ⟨x, xs, h1, h2, h3⟩ := hrow z hz
              exact ⟨x, xs, h1, ee.tup (one_dk hD4) (e4.tup Lsts.nil h2), by omega⟩
            · obtain rfl := List.mem_singleton.mp hz
              exact ⟨nr, ys, rfl, ee.tup (one_dk hD4) hn, hl⟩
          have last : ∀ (nr : Addr) (H5 : Hp), H5 o = some (.lst (F.map nV)) → H5 d = some (.dK (kvs ++ [(kN p.2, .ref nr)])) → (∀ e ∈ kvs ++ [(kN p.2, .ref nr)], Row H5 (F.length + 1) e.2) → Ext [] H H5 →
              ∃ (F' : List Nat) (kvs' : List (Key × V)) (y5 y6 : Option V), [some (.ref a), some (.int 0), some (.ref d), some (.ref o), some (.int ((i : Int) + 1)), some (nV x), some (.int p.1), some (.int p.2)] = [some (.ref a), some (.int 0), some (.ref d), some (.ref o), some (.int ((i : Int) + 1)), some (nV x), y5, y6] ∧
                MetW b F' i x (k + 1) ∧ upd H5 o (.lst (F.map nV ++ [.int p.2])) o = some (.lst (F'.map nV)) ∧ upd H5 o (.lst (F.map nV ++ [.int p.2])) d = some (.dK kvs') ∧ kvs'.map (·.1) = F'.map kN ∧ (∀ e ∈ kvs', Row (upd H5 o (.lst (F.map nV ++ [.int p.2]))) F'.length e.2) ∧ Ext [] H (upd H5 o (.lst (F.map nV ++ [.int p.2]))) := by
            intro nr H5 h1 h2 h3 h4
            refine ⟨F ++ [p.2], kvs ++ [(kN p.2, .ref nr)], _, _, rfl, mw.push hp hin pb, by rw [upd_same, List.map_append]; rfl, by rw [upd_ne od]; exact h2, by rw [List.map_append, List.map_append, hk]; rfl, fun z hz => ?_, h4.put ho0⟩
            obtain ⟨x, xs, g1, g2, g3⟩ := h3 z hz
            exact ⟨x, xs, g1, Ext.tup (L := [o]) (.wr (by simp)) (one_lst h1) g2, by rw [List.length_append]; exact g3⟩
          refine ⟨_, rfl, _, rfl, d, _, rfl, by rw [← hrv]; exact DGet.k (k := kN x) hD, _, rfl, (by show 1 ≤ sizeLine; decide), fun g2 hg2 => ?_⟩
          have e5 : Ext [] H' (upd H' g2 (.tup [.int p.1])) := .new hg2
          refine ⟨r, g2, rs, _, rfl, rfl, e5.tup Lsts.nil hr1, .of upd_same, ?_, fun h0 => ?_, fun _ h0 => (by cases h0), fun _ _ g3 hg3 => ?_⟩
          · show rs.length + 1 ≤ sizeLine
            exact Nat.le_of_lt (small1000 (by omega))
          · obtain ⟨H5, dp, _, f1, f2, f3, f4⟩ := fin g2 [.int p.1] _ e5 (.of upd_same) (by simp)
            refine ⟨_, rfl, _, rfl, d, H5, rfl, dp, ?_⟩
            exact ⟨_, rfl, .inl ⟨rfl, _, .of f1⟩, _, rfl, o, _, _, rfl, rfl, f1, by rw [List.length_map]; exact small1000 (by omega), last g2 H5 f1 f2 f3 f4⟩
          · obtain ⟨H5, dp, _, f1, f2, f3, f4⟩ := fin g3 (rs ++ [.int p.1]) _ (e5.put2 hg3) (.of upd_same) (by rw [List.length_append]; show rs.length + 1 ≤ _; omega)
            refine ⟨_, rfl, _, rfl, d, H5, rfl, dp, ?_⟩
            exact ⟨_, rfl, .inl ⟨rfl, _, .of f1⟩, _, rfl, o, _, _, rfl, rfl, f1, by rw [List.length_map]; exact small1000 (by omega), last g3 H5 f1 f2 f3 f4⟩
      · rintro σ H' ⟨F, kvs, y5, y6, rfl, mw, hF, hD, hk, hrow, e⟩
        exact ⟨F, kvs, _, _, _, by rw [Int.natCast_add]; rfl, mw.done (by rw [List.length_map, plen]; exact Nat.le_refl _), hF, hD, hk, hrow, e⟩
    · have z : ¬ ((i : Int) < ((F.map nV).length : Int)) := fun y => z (decide_eq_true y)
      rw [List.length_map] at z
      have := mi.le
      exact ⟨_, rfl, q F kvs d H' (mi.met (.inl (by omega))) hk hD e⟩
theorem Met.all {b : Book} {F : List Nat} (m : Met b F) {s : Nat} (h : Rch b s) : s ∈ F := by
  induction h with
  | zero => exact List.mem_of_getElem? m.zero
  | step _ hp ih => exact m.cl _ ih _ hp
theorem sc_made_book : FnScope ["thing", "reached", "state"] ["thing"] (defScope s_made_book) := ⟨rfl, rfl, rfl, by decide +kernel, rfl, by decide +kernel, by decide +kernel⟩
def sp_made_book (K : PySem.W.Frag) : Sp := fun vs H Q _ => ∃ (v : V) (b : Book), vs = [v] ∧ BkV K H v b ∧ OkB b ∧ ∀ H', Ext [] H H' → Q v H'
theorem ok_made_book (T : Tx K mg) : FnOk P w K mg base CX0 5 T.made_book.f T.made_book.fd ["thing"] (sp_made_book K) := by
  refine T.made_book.F.ok sc_made_book (fun vs H Q E h => ?_) (fun cdv A outer s H vs Q E hr h => ?_)
  · obtain ⟨v, b, rfl, _⟩ := h; rfl
  · obtain ⟨v, b, rfl, hb, ok, q⟩ := h
    refine ⟨_, (pss_cons (ps_expr (pe_call (ok_check_form T) (hr.mono (by decide)) (by rfl) T.check_form.g T.check_form.F.kp T.check_form.b .nil pass0 (pa_cons (pv 0) pa_nil)))
      (pss_cons (ps_set (i := 1) sc_made_book.nd rfl (.inl rfl) (pe_call (ok_first_rows T) (hr.mono (by decide)) (by rfl) T.first_rows.g T.first_rows.F.kp T.first_rows.bD.choose_spec.2 T.first_rows.bD.choose_spec.1 pass0 (pa_cons (pv 0) pa_nil)))
      (pss_cons (ps_for PassesOwn.never rfl (pi_range1 (by rfl) T.n_range (pa_cons (pe_callB call_len_seq (by rfl) T.n_len PySem.boot_len (pa_cons (pv 0) pa_nil)) pa_nil)) (pg_name (i := 2) sc_made_book.nd rfl (.inl rfl))
        (pss_one (ps_if (pt_cmp (pc_dnotin (hu_of hr) (pv 2) (pv 1)))
          (pss_one ps_never)
          pss_nil)))
      (pss_one (ps_ret (pv 0)))))), ?_⟩
    refine ⟨_, rfl, v, b, rfl, hb, ok.toFormB, ?_⟩
    refine ⟨_, rfl, v, b, rfl, hb.wk, ok.toFormB, fun F kvs d H' mt hk hd e => ?_⟩
    obtain ⟨a, ls, rfl, ha, hls⟩ := hb
    have llen := Paired.len hls
    have h8 := ok.eight
    refine ⟨_, rfl, a, _, rfl, .inr (e.tup Lsts.nil ha), _, rfl, by omega, by omega, for_range (lo := 0) (n := _) (fun k σ H2 => H2 = H' ∧ ∃ y : Option V, σ = [some (.ref a), some (.ref d), y]) ⟨rfl, _, rfl⟩ ?_ ?_⟩
    · rintro k σ H2 hk' ⟨rfl, y, rfl⟩
      simp only [Int.zero_add]
      rw [Int.toNat_natCast] at hk'
      refine ⟨_, rfl, _, rfl, d, _, rfl, DGet.k (k := kN k) hd, _, rfl, ?_⟩
      rw [valV_key hk, decide_eq_true (mt.all (ok.reach k (by omega)))]
      exact iteF ⟨rfl, _, rfl⟩
    · rintro σ H2 ⟨rfl, y, rfl⟩
      exact ⟨_, rfl, q _ e⟩
end
end Nv
set_option Elab.async false
set_option linter.all false
set_option maxRecDepth 100000
namespace Nv
open PySem PySem.Spec PyProof.Rows L2
/-! ### comprehensions of some forms -/
abbrev LcEnd (g : TG) (tt : TT) (te : TE) (vs : List Nat) (σ : L2.St) (D : Addr) (J : It) (H1 : Hp) (Qd : Hp → Prop) : Prop := ∃ W : Nat → Nat → Hp → Prop, (∃ m, W 0 m (upd H1 D (.lst []))) ∧ ∀ i m H, W i m H →
  (J.stop i H ∧ Qd H) ∨ (J.go i H ∧ ∃ Nx : Hp → Prop, (∀ H', Nx H' → ∃ m', m' < m ∧ W (i + 1) m' H') ∧ ∀ x H', J.yld i H x H' → g x (wipe σ vs) H' fun σ2 H2 => wipe σ2 vs = wipe σ vs ∧ tt σ2 H2 fun b H3 =>
    if b = true then te σ2 H3 fun y H4 => ∃ acc, H4 D = some (.lst acc) ∧ acc.length < sizeLine ∧ Nx (upd H4 D (.lst (acc ++ [y]))) else Nx H3)
theorem filter_take {α : Type} (f : α → Bool) {l : List α} {i : Nat} {x : α} (h : l[i]? = some x) : (l.take (i + 1)).filter f = (l.take i).filter f ++ (if f x = true then [x] else []) := by
  rw [List.take_add_one, h, List.filter_append]
  cases e : f x <;> simp [e]
/-- [x for x in l if test]: l holds numbers -/
theorem filt_list {K : PySem.W.Frag} {a : Addr} {l : List Nat} {j : Nat} {vs : List Nat} {σ : L2.St} {H1 : Hp} {D : Addr} {Qd : Hp → Prop} {tt : TT} (f : Nat → Bool) (hD : H1 D = none) (hl : SqL K H1 a (l.map nV)) (hn : l.length < 1000)
    (hj : ∀ v : V, ((wipe σ vs).set j (some v))[j]? = some (some v)) (hw : ∀ v : V, wipe ((wipe σ vs).set j (some v)) vs = wipe σ vs)
    (ht : ∀ k H', k ∈ l → Ext [] H1 H' → tt ((wipe σ vs).set j (some (nV k))) H' (fun b H3 => b = f k ∧ Ext [] H' H3))
    (hd : ∀ H', H' D = some (.lst ((l.filter f).map nV)) → Ext [] H1 H' → Qd H') : LcEnd (gName j) (tMidT tt) (tVar j) vs σ D (Itl K a) H1 Qd := by
  refine lc_list (K := K) (a := a) (xs := l.map nV) (fun i H' => H' D = some (.lst (((l.take i).filter f).map nV)) ∧ Ext [] H1 H') ⟨upd_same, .new hD⟩ (fun i H' _ ⟨_, e⟩ => e.frz (by simp) hl) ?_ ?_
  · rintro i v H' hv ⟨h1, e⟩
    obtain ⟨k, hk, rfl⟩ := map_at hv
    refine ⟨hw _, _, ht k H' (List.mem_of_getElem? hk) e, ?_⟩
    rintro b H3 ⟨rfl, e3⟩
    have h3 := e3.at h1 (by simp)
    rw [filter_take f hk]
    refine ifB (fun hf => ?_) (fun hf => ?_)
    · refine ⟨_, hj _, _, h3, ?_, ?_, (e.trans e3).put hD⟩
      · rw [List.length_map]
        refine small1000 (Nat.le_trans (List.length_filter_le _ _) ?_)
        rw [List.length_take]
        omega
      · rw [upd_same, hf]
        simp
    · rw [hf]
      simp only [Bool.false_eq_true, if_false, List.append_nil]
      exact ⟨h3, e.trans e3⟩
  · rintro H' ⟨h1, e⟩
    rw [List.length_map, List.take_length] at h1
    exact hd H' h1 e
/-- the same over a tuple -/
theorem filt_tup {K : PySem.W.Frag} {a : Addr} {l : List Nat} {j : Nat} {vs : List Nat} {σ : L2.St} {H1 : Hp} {D : Addr} {Qd : Hp → Prop} {tt : TT} (f : Nat → Bool) (hD : H1 D = none) (hl : SqT K H1 a (l.map nV)) (hn : l.length < 1000)
    (hj : ∀ v : V, ((wipe σ vs).set j (some v))[j]? = some (some v)) (hw : ∀ v : V, wipe ((wipe σ vs).set j (some v)) vs = wipe σ vs)
    (ht : ∀ k H', k ∈ l → Ext [] H1 H' → tt ((wipe σ vs).set j (some (nV k))) H' (fun b H3 => b = f k ∧ Ext [] H' H3))
    (hd : ∀ H', H' D = some (.lst ((l.filter f).map nV)) → Ext [] H1 H' → Qd H') : LcEnd (gName j) (tMidT tt) (tVar j) vs σ D (Itt K a) H1 Qd := by
  refine lc_tup (K := K) (a := a) (xs := l.map nV) (fun i H' => H' D = some (.lst (((l.take i).filter f).map nV)) ∧ Ext [] H1 H') ⟨upd_same, .new hD⟩ (fun i H' _ ⟨_, e⟩ => e.tup Lsts.nil hl) ?_ ?_
  · rintro i v H' hv ⟨h1, e⟩
    obtain ⟨k, hk, rfl⟩ := map_at hv
    refine ⟨hw _, _, ht k H' (List.mem_of_getElem? hk) e, ?_⟩
    rintro b H3 ⟨rfl, e3⟩
    have h3 := e3.at h1 (by simp)
    rw [filter_take f hk]
    refine ifB (fun hf => ?_) (fun hf => ?_)
    · refine ⟨_, hj _, _, h3, ?_, ?_, (e.trans e3).put hD⟩
      · rw [List.length_map]
        refine small1000 (Nat.le_trans (List.length_filter_le _ _) ?_)
        rw [List.length_take]
        omega
      · rw [upd_same, hf]
        simp
    · rw [hf]
      simp only [Bool.false_eq_true, if_false, List.append_nil]
      exact ⟨h3, e.trans e3⟩
  · rintro H' ⟨h1, e⟩
    rw [List.length_map, List.take_length] at h1
    exact hd H' h1 e
/-- [x for x in range(n) if test] -/
theorem filt_range {n : Nat} {j : Nat} {vs : List Nat} {σ : L2.St} {H1 : Hp} {D : Addr} {Qd : Hp → Prop} {tt : TT} (f : Nat → Bool) (hD : H1 D = none) (hn : n < 1000)
    (hj : ∀ v : V, ((wipe σ vs).set j (some v))[j]? = some (some v)) (hw : ∀ v : V, wipe ((wipe σ vs).set j (some v)) vs = wipe σ vs)
    (ht : ∀ k H', k < n → Ext [] H1 H' → tt ((wipe σ vs).set j (some (nV k))) H' (fun b H3 => b = f k ∧ Ext [] H' H3))
    (hd : ∀ H', H' D = some (.lst (((List.range n).filter f).map nV)) → Ext [] H1 H' → Qd H') : LcEnd (gName j) (tMidT tt) (tVar j) vs σ D (Itr 0 n) H1 Qd := by
  refine lc_range (lo := 0) (n := n) (fun i H' => H' D = some (.lst ((((List.range n).take i).filter f).map nV)) ∧ Ext [] H1 H') ⟨upd_same, .new hD⟩ ?_ ?_
  · rintro i H' hi ⟨h1, e⟩
    have hk : (List.range n)[i]? = some i := by rw [List.getElem?_range hi]
    simp only [Int.zero_add]
    refine ⟨hw _, _, ht i H' hi e, ?_⟩
    rintro b H3 ⟨rfl, e3⟩
    have h3 := e3.at h1 (by simp)
    rw [filter_take f hk]
    refine ifB (fun hf => ?_) (fun hf => ?_)
    · refine ⟨_, hj _, _, h3, ?_, ?_, (e.trans e3).put hD⟩
      · rw [List.length_map]
        refine small1000 (Nat.le_trans (List.length_filter_le _ _) ?_)
        rw [List.length_take, List.length_range]
        omega
      · rw [upd_same, hf]
        simp
    · rw [hf]
      simp only [Bool.false_eq_true, if_false, List.append_nil]
      exact ⟨h3, e.trans e3⟩
  · rintro H' ⟨h1, e⟩
    rw [List.take_of_length_le (by simp)] at h1
    exact hd H' h1 e
/-- two clauses: the first over a list -/
theorem lc2_list {K : PySem.W.Frag} {a : Addr} {xs : List V} {g g1 : TG} {tt tt1 : TT} {wi1 : TI} {te : TE} {vs vs1 : List Nat} {σ : L2.St} {H1 : Hp} {D : Addr} {Qd : Hp → Prop} (Pv : Nat → Hp → Prop) (h0 : Pv 0 (upd H1 D (.lst []))) (hl : ∀ i H, i ≤ xs.length → Pv i H → SqL K H a xs)
    (hs : ∀ i x H, xs[i]? = some x → Pv i H → g x (wipe σ vs) H fun σ2 H2 => wipe σ2 vs = wipe σ vs ∧ tt σ2 H2 fun b H3 => if b = true then wi1 σ2 H3 fun J1 H4 => ∃ W1 : Nat → Nat → Hp → Prop, (∃ m, W1 0 m H4) ∧ ∀ j k H, W1 j k H →
      (J1.stop j H ∧ Pv (i + 1) H) ∨ (J1.go j H ∧ ∃ Nx1 : Hp → Prop, (∀ H', Nx1 H' → ∃ k', k' < k ∧ W1 (j + 1) k' H') ∧ ∀ x H', J1.yld j H x H' → g1 x (wipe σ2 vs1) H' fun σ3 H5 => wipe σ3 vs1 = wipe σ2 vs1 ∧ tt1 σ3 H5 fun b H6 =>
        if b = true then te σ3 H6 fun y H7 => ∃ acc, H7 D = some (.lst acc) ∧ acc.length < sizeLine ∧ Nx1 (upd H7 D (.lst (acc ++ [y]))) else Nx1 H6) else Pv (i + 1) H3)
    (hd : ∀ H, Pv xs.length H → Qd H) :
    ∃ W : Nat → Nat → Hp → Prop, (∃ m, W 0 m (upd H1 D (.lst []))) ∧ ∀ i m H, W i m H →
      ((Itl K a).stop i H ∧ Qd H) ∨ ((Itl K a).go i H ∧ ∃ Nx : Hp → Prop, (∀ H', Nx H' → ∃ m', m' < m ∧ W (i + 1) m' H') ∧ ∀ x H', (Itl K a).yld i H x H' → g x (wipe σ vs) H' fun σ2 H2 => wipe σ2 vs = wipe σ vs ∧ tt σ2 H2 fun b H3 =>
        if b = true then wi1 σ2 H3 fun J1 H4 => ∃ W1 : Nat → Nat → Hp → Prop, (∃ m, W1 0 m H4) ∧ ∀ j k H, W1 j k H →
          (J1.stop j H ∧ Nx H) ∨ (J1.go j H ∧ ∃ Nx1 : Hp → Prop, (∀ H', Nx1 H' → ∃ k', k' < k ∧ W1 (j + 1) k' H') ∧ ∀ x H', J1.yld j H x H' → g1 x (wipe σ2 vs1) H' fun σ3 H5 => wipe σ3 vs1 = wipe σ2 vs1 ∧ tt1 σ3 H5 fun b H6 =>
            if b = true then te σ3 H6 fun y H7 => ∃ acc, H7 D = some (.lst acc) ∧ acc.length < sizeLine ∧ Nx1 (upd H7 D (.lst (acc ++ [y]))) else Nx1 H6)
        else Nx H3) := by
  refine ⟨fun i m H => m = xs.length - i ∧ i ≤ xs.length ∧ Pv i H, ⟨xs.length, by simp, Nat.zero_le _, h0⟩, ?_⟩
  rintro i m H ⟨rfl, hi, p⟩
  have q := hl i H hi p
  by_cases lt : i < xs.length
  · refine .inr ⟨⟨xs, xs[i], q, List.getElem?_eq_getElem lt⟩, Pv (i + 1), fun H' p' => ⟨xs.length - (i + 1), by omega, rfl, lt, p'⟩, fun x H' y => ?_⟩
    obtain ⟨rfl, y2⟩ := y
    exact hs i x H' (y2 xs q) p
  · have e : i = xs.length := by omega
    subst e
    exact .inl ⟨⟨xs, q, Nat.le_refl _⟩, hd H p⟩
/-- the second over a tuple -/
theorem lc2_tup {K : PySem.W.Frag} {c : Addr} {ys : List V} {g1 : TG} {tt1 : TT} {te : TE} {vs1 : List Nat} {σ2 : L2.St} {H4 : Hp} {D : Addr} {Nx : Hp → Prop} (Pv : Nat → Hp → Prop) (h0 : Pv 0 H4) (hl : ∀ j H, j ≤ ys.length → Pv j H → SqT K H c ys)
    (hs : ∀ j y H, ys[j]? = some y → Pv j H → g1 y (wipe σ2 vs1) H fun σ3 H5 => wipe σ3 vs1 = wipe σ2 vs1 ∧ tt1 σ3 H5 fun b H6 =>
      if b = true then te σ3 H6 fun y H7 => ∃ acc, H7 D = some (.lst acc) ∧ acc.length < sizeLine ∧ Pv (j + 1) (upd H7 D (.lst (acc ++ [y]))) else Pv (j + 1) H6) (hd : ∀ H, Pv ys.length H → Nx H) :
    ∃ W1 : Nat → Nat → Hp → Prop, (∃ m, W1 0 m H4) ∧ ∀ j k H, W1 j k H →
      ((Itt K c).stop j H ∧ Nx H) ∨ ((Itt K c).go j H ∧ ∃ Nx1 : Hp → Prop, (∀ H', Nx1 H' → ∃ k', k' < k ∧ W1 (j + 1) k' H') ∧ ∀ x H', (Itt K c).yld j H x H' → g1 x (wipe σ2 vs1) H' fun σ3 H5 => wipe σ3 vs1 = wipe σ2 vs1 ∧ tt1 σ3 H5 fun b H6 =>
        if b = true then te σ3 H6 fun y H7 => ∃ acc, H7 D = some (.lst acc) ∧ acc.length < sizeLine ∧ Nx1 (upd H7 D (.lst (acc ++ [y]))) else Nx1 H6) := by
  refine ⟨fun i m H => m = ys.length - i ∧ i ≤ ys.length ∧ Pv i H, ⟨ys.length, by simp, Nat.zero_le _, h0⟩, ?_⟩
  rintro i m H ⟨rfl, hi, p⟩
  have q := hl i H hi p
  by_cases lt : i < ys.length
  · refine .inr ⟨⟨ys, ys[i], q, List.getElem?_eq_getElem lt⟩, Pv (i + 1), fun H' p' => ⟨ys.length - (i + 1), by omega, rfl, lt, p'⟩, fun x H' y => ?_⟩
    obtain ⟨rfl, y2⟩ := y
    exact hs i x H' (y2 ys q) p
  · have e : i = ys.length := by omega
    subst e
    exact .inl ⟨⟨ys, q, Nat.le_refl _⟩, hd H p⟩
end Nv
set_option linter.all false
namespace Nv
open PySem PySem.Spec PyProof.Rows L2
/-! ### what may be shown -/
theorem int_short {i : Int} (h1 : -1 ≤ i) (h2 : i < 8) : PyData.leavesShort 8 (.int i) = true := by
  have : i = -1 ∨ i = 0 ∨ i = 1 ∨ i = 2 ∨ i = 3 ∨ i = 4 ∨ i = 5 ∨ i = 6 ∨ i = 7 := by omega
  rcases this with rfl | rfl | rfl | rfl | rfl | rfl | rfl | rfl | rfl <;> decide +kernel
structure ShowOk (d : PyData) : Prop where
  a : d.showable = true
  b : d.hasDict = false
  c : d.depth ≤ 60
  d : d.shown.length ≤ sizeLine
end Nv
set_option Elab.async false
set_option linter.all false
set_option maxRecDepth 100000
namespace Nv
open PySem PySem.Spec PyProof.Rows L2
/-! ### repr of any data -/
/-- repr(x) of data; nothing is being shown around -/
def rReprA (K : PySem.W.Frag) : List V → Hp → VK → Prop := fun xs H Q => ∃ (v : V) (d : PyData), xs = [v] ∧ Dp K H v d ∧ ShowOk d ∧ Q (.str d.shown) H
theorem call_reprA {X : Cx} (hu : X.A.units + 64 < cLine) (hg : X.A.guards = some []) : CallR X (.builtin "repr") (rReprA X.K) := by
  intro pins s σ H xs us Q I r h
  obtain ⟨v, d, rfl, hd, sh, q⟩ := h
  cases hd with
  | non =>
    obtain ⟨u, rfl, rfl⟩ := vals1 r
    exact PySem.P.repr_of_none ⟨.str _, H, I.tok _, ⟨_, rfl⟩, q⟩
  | bl b =>
    obtain ⟨u, rfl, rfl⟩ := vals1 r
    exact PySem.P.repr_of_bool ⟨.str _, H, I.tok _, ⟨_, rfl⟩, q⟩
  | int i =>
    exact SkE.call_repr_int pins s σ H _ us Q I r ⟨i, rfl, of_decide_eq_true sh.a, q⟩
  | str x =>
    obtain ⟨u, rfl, rx⟩ := vals1 r
    obtain ⟨t, rfl⟩ := rx
    exact PySem.P.repr_of_str ⟨.str _, H, I.tok _, ⟨_, rfl⟩, q⟩ sh.d
  | lst h1 h2 => exact call_reprD hu hg pins s σ H _ us Q I r ⟨_, _, rfl, .lst h1 h2, sh.a, sh.b, sh.c, sh.d, q⟩
  | tup h1 h2 => exact call_reprD hu hg pins s σ H _ us Q I r ⟨_, _, rfl, .tup h1 h2, sh.a, sh.b, sh.c, sh.d, q⟩
theorem call_reprAK (K : PySem.W.Frag) {X : Cx} (hu : X.A.units + 64 < cLine) (hg : X.A.guards = some []) (eK : X.K = K := by rfl) : CallR X (.builtin "repr") (rReprA K) := by
  subst eK
  exact call_reprA hu hg
/-- what is shown of some data -/
theorem show_mk {d : PyData} {n : Nat} (a : d.showable = true) (b : d.hasDict = false) (c : d.depth ≤ 60) (e : PyData.leavesShort 8 d = true) (k : PyData.bulk d ≤ n) (hn : n ≤ 60) : ShowOk d where
  a := a
  b := b
  c := c
  d := by
    have k2 := PyData.shown_le_bulk 8 (Nat.le_refl _) d e
    refine Nat.le_of_lt (small1000 (Nat.le_trans k2 ?_))
    omega
theorem nat_short {n : Nat} (h : n < 8) : PyData.leavesShort 8 (.int (n : Int)) = true := int_short (by omega) (by omega)
abbrev iN (l : List Nat) : List Int := l.map fun n : Nat => (n : Int)
theorem map_nV_iN (l : List Nat) : l.map nV = (iN l).map V.int := by rw [List.map_map]; rfl
theorem str_ne (x : Str) : (!decide (V.str x = V.str x)) = false := by rw [decide_eq_true rfl]; rfl
theorem str_eq (x : Str) : decide (V.str x = V.str x) = true := decide_eq_true rfl
theorem str_small {e : Int} (h : -1 ≤ e ∧ e ≤ 8) : (Str.ofString (toString e)).length ≤ 8 := by
  have : e = -1 ∨ e = 0 ∨ e = 1 ∨ e = 2 ∨ e = 3 ∨ e = 4 ∨ e = 5 ∨ e = 6 ∨ e = 7 ∨ e = 8 := by omega
  rcases this with rfl | rfl | rfl | rfl | rfl | rfl | rfl | rfl | rfl | rfl <;> decide +kernel
theorem show_int {e : Int} (h : -1 ≤ e ∧ e ≤ 8) : ShowOk (.int e) ∧ (PyData.int e).shown.length ≤ 100 := by
  have sl := str_small h
  have hlog : e.natAbs.log2 < 1920 := Nat.lt_of_le_of_lt (Nat.log2_le_self _) (by omega)
  have e1 : (PyData.int e).shown.length = (Str.ofString (toString e)).length := rfl
  exact ⟨⟨decide_eq_true hlog, rfl, (by show (0 : Nat) ≤ 60; decide), by rw [e1]; exact Nat.le_of_lt (small1000 (by omega))⟩, by omega⟩
end Nv
set_option linter.all false
namespace Nv
open PySem PySem.Spec PyProof.Rows L2
/-! ### what may be shown, part by part -/
structure Sh (d : PyData) (k n : Nat) : Prop where
  a : d.showable = true
  b : d.hasDict = false
  c : d.depth ≤ k
  e : PyData.leavesShort 8 d = true
  f : PyData.bulk d ≤ n
structure ShL (ds : List PyData) (k n : Nat) : Prop where
  a : PyData.showableAll ds = true
  b : PyData.hasDictAll ds = false
  c : PyData.depthAll ds ≤ k
  e : PyData.leavesShortAll 8 ds = true
  f : PyData.bulkAll ds ≤ n
theorem ShL.nil {k n : Nat} : ShL [] k n := ⟨rfl, rfl, Nat.zero_le _, rfl, Nat.zero_le _⟩
theorem ShL.cons {d : PyData} {ds : List PyData} {k n m : Nat} (h : Sh d k n) (t : ShL ds k m) : ShL (d :: ds) k (n + 1 + m) where
  a := by simp only [PyData.showableAll, h.a, t.a, Bool.and_self]
  b := by simp only [PyData.hasDictAll, h.b, t.b, Bool.or_self]
  c := by
    have := h.c
    have := t.c
    simp only [PyData.depthAll]
    omega
  e := by simp only [PyData.leavesShortAll, h.e, t.e, Bool.and_self]
  f := by
    have := h.f
    have := t.f
    simp only [PyData.bulkAll]
    omega
theorem Sh.mono {d : PyData} {k n k' n' : Nat} (h : Sh d k n) (hk : k ≤ k') (hn : n ≤ n') : Sh d k' n' := ⟨h.a, h.b, Nat.le_trans h.c hk, h.e, Nat.le_trans h.f hn⟩
theorem ShL.mono {d : List PyData} {k n k' n' : Nat} (h : ShL d k n) (hk : k ≤ k') (hn : n ≤ n') : ShL d k' n' := ⟨h.a, h.b, Nat.le_trans h.c hk, h.e, Nat.le_trans h.f hn⟩
theorem Sh.tup {ds : List PyData} {k n : Nat} (h : ShL ds k n) : Sh (.tuple ds) (k + 1) n where
  a := by simp only [PyData.showable, h.a]
  b := by simp only [PyData.hasDict, h.b]
  c := by
    have := h.c
    simp only [PyData.depth]
    omega
  e := by simp only [PyData.leavesShort, h.e]
  f := by simp only [PyData.bulk]; exact h.f
theorem Sh.lst {ds : List PyData} {k n : Nat} (h : ShL ds k n) : Sh (.list ds) (k + 1) n where
  a := by simp only [PyData.showable, h.a]
  b := by simp only [PyData.hasDict, h.b]
  c := by
    have := h.c
    simp only [PyData.depth]
    omega
  e := by simp only [PyData.leavesShort, h.e]
  f := by simp only [PyData.bulk]; exact h.f
theorem nat_len2 : ∀ n : Fin 100, PyData.leavesShort 8 (.int ((n.val : Nat) : Int)) = true := by decide +kernel
theorem Sh.nat {n : Nat} (h : n ≤ 99) {k m : Nat} : Sh (.int (n : Int)) k m where
  a := by
    show decide ((n : Int).natAbs.log2 < 1920) = true
    exact decide_eq_true (Nat.lt_of_le_of_lt (Nat.log2_le_self _) (by omega))
  b := rfl
  c := Nat.zero_le _
  e := nat_len2 ⟨n, by omega⟩
  f := Nat.zero_le _
theorem Sh.neg1 {k m : Nat} : Sh (.int (-1)) k m := ⟨by decide +kernel, rfl, Nat.zero_le _, by decide +kernel, Nat.zero_le _⟩
theorem Sh.bl {b : Bool} {k m : Nat} : Sh (.bool b) k m := ⟨by cases b <;> rfl, rfl, Nat.zero_le _, by cases b <;> rfl, Nat.zero_le _⟩
theorem Sh.non {k m : Nat} : Sh .none k m := ⟨rfl, rfl, Nat.zero_le _, rfl, Nat.zero_le _⟩
theorem Sh.str {x : Str} (a : (PyData.str x).showable = true) (e : PyData.leavesShort 8 (.str x) = true) {k n : Nat} (f : x.cps.size ≤ n) : Sh (.str x) k n := ⟨a, rfl, Nat.zero_le _, e, f⟩
theorem ShL.map {α : Type} {f : α → PyData} {k n : Nat} : ∀ {l : List α}, (∀ x ∈ l, Sh (f x) k n) → ShL (l.map f) k (l.length * (n + 1))
  | [], _ => .nil
  | x :: r, h => by
    have h1 := ShL.cons (h x (List.mem_cons_self ..)) (ShL.map fun y hy => h y (List.mem_cons_of_mem _ hy))
    refine h1.mono (Nat.le_refl _) ?_
    rw [List.length_cons, Nat.add_mul]
    omega
theorem Sh.ok {d : PyData} {k n : Nat} (h : Sh d k n) (hk : k ≤ 60) (hn : n ≤ 1000000) : ShowOk d where
  a := h.a
  b := h.b
  c := Nat.le_trans h.c hk
  d := PyData.shown_fits_bulk (Nat.le_refl _) (by decide) h.e (Nat.le_trans h.f (Nat.le_trans hn (by decide)))
end Nv
set_option Elab.async false
set_option linter.all false
set_option maxRecDepth 100000
namespace Nv
open PySem PySem.Spec PyProof.Rows L2
section
variable {P : Program} {w : World} {K : PySem.W.Frag} {mg : Str → Option Value} {base : Heap}
/-! ### the checks, of any data -/
def intLike : PyData → Bool
  | .int _ => true
  | .bool _ => true
  | _ => false
def isBoolD : PyData → Bool
  | .bool _ => true
  | _ => false
def isTupD : PyData → Bool
  | .tuple _ => true
  | _ => false
theorem kit_int (d : PyData) : kitB (tyD d) "int" = some (intLike d) := by
  cases d with
  | none => exact (by decide +kernel : kitB "NoneType" "int" = some false)
  | bool b => exact (by decide +kernel : kitB "bool" "int" = some true)
  | int i => exact (by decide +kernel : kitB "int" "int" = some true)
  | str x => exact (by decide +kernel : kitB "str" "int" = some false)
  | list l => exact (by decide +kernel : kitB "list" "int" = some false)
  | tuple l => exact (by decide +kernel : kitB "tuple" "int" = some false)
  | dict l => exact (by decide +kernel : kitB "dict" "int" = some false)
theorem kit_bool (d : PyData) : kitB (tyD d) "bool" = some (isBoolD d) := by
  cases d with
  | none => exact (by decide +kernel : kitB "NoneType" "bool" = some false)
  | bool b => exact (by decide +kernel : kitB "bool" "bool" = some true)
  | int i => exact (by decide +kernel : kitB "int" "bool" = some false)
  | str x => exact (by decide +kernel : kitB "str" "bool" = some false)
  | list l => exact (by decide +kernel : kitB "list" "bool" = some false)
  | tuple l => exact (by decide +kernel : kitB "tuple" "bool" = some false)
  | dict l => exact (by decide +kernel : kitB "dict" "bool" = some false)
theorem kit_tup (d : PyData) : kitB (tyD d) "tuple" = some (isTupD d) := by
  cases d with
  | none => exact (by decide +kernel : kitB "NoneType" "tuple" = some false)
  | bool b => exact (by decide +kernel : kitB "bool" "tuple" = some false)
  | int i => exact (by decide +kernel : kitB "int" "tuple" = some false)
  | str x => exact (by decide +kernel : kitB "str" "tuple" = some false)
  | list l => exact (by decide +kernel : kitB "list" "tuple" = some false)
  | tuple l => exact (by decide +kernel : kitB "tuple" "tuple" = some true)
  | dict l => exact (by decide +kernel : kitB "dict" "tuple" = some false)

def sp_wholeD (K : PySem.W.Frag) : Sp := fun vs H Q _ => ∃ (v : V) (d : PyData), vs = [v] ∧ Dp K H v d ∧ Q (.bl (wholeD d)) H
theorem okD_whole (T : Tx K mg) : FnOk P w K mg base CX0 1 T.whole.f T.whole.fd ["thing"] (sp_wholeD K) := by
  refine T.whole.F.ok sc_whole (fun vs H Q E h => ?_) (fun cdv A outer s H vs Q E hr h => ?_)
  · obtain ⟨v, d, rfl, _⟩ := h; rfl
  · obtain ⟨v, d, rfl, hd, q⟩ := h
    refine ⟨_, (pss_one (ps_ret (pe_and (pe_callB call_isi (by rfl) T.n_isinstance (by decide +kernel) (pa_cons (pv 0) (pa_cons (pe_bltn (v := .ty "int") (by rfl) T.n_int (by decide +kernel) rfl) pa_nil))) (pe_one (pe_not (pe_callB call_isi (by rfl) T.n_isinstance (by decide +kernel) (pa_cons (pv 0) (pa_cons (pe_bltn (v := .ty "bool") (by rfl) T.n_bool (by decide +kernel) rfl) pa_nil)))))))), ?_⟩
    have ty := Dp.ty hd
    refine ⟨_, rfl, _, _, _, _, _, rfl, .ty _, ty, kit_ty (kit_int d), _, rfl, ?_⟩
    cases hi : intLike d with
    | false =>
      refine iteF ?_
      have : wholeD d = false := by cases d <;> first | rfl | cases hi
      rw [this] at q
      exact q
    | true =>
      refine iteT ⟨_, rfl, _, _, _, _, _, rfl, .ty _, ty, kit_ty (kit_bool d), _, rfl, ?_⟩
      have : wholeD d = !isBoolD d := by cases d <;> first | rfl | cases hi
      rw [this] at q
      exact q

def sp_whole_withinD (K : PySem.W.Frag) : Sp := fun vs H Q _ => ∃ (v : V) (d : PyData) (a b : Int), vs = [v, .int a, .int b] ∧ Dp K H v d ∧ Q (.bl (inD d a b)) H
theorem okD_whole_within (T : Tx K mg) : FnOk P w K mg base CX0 2 T.whole_within.f T.whole_within.fd ["thing", "low", "high"] (sp_whole_withinD K) := by
  refine T.whole_within.F.ok sc_whole_within (fun vs H Q E h => ?_) (fun cdv A outer s H vs Q E hr h => ?_)
  · obtain ⟨v, d, a, b, rfl, _⟩ := h; rfl
  · obtain ⟨v, d, a, b, rfl, hd, q⟩ := h
    refine ⟨_, (pss_one (ps_ret (pe_and (pe_call (okD_whole T) (hr.mono (by decide)) (by rfl) T.whole.g T.whole.F.kp T.whole.b .nil pass0 (pa_cons (pv 0) pa_nil)) (pe_one (pe_chain op_le op_le (pv 1) (pv 0) (pv 2)))))), ?_⟩
    refine ⟨_, rfl, v, d, rfl, hd, _, rfl, ?_⟩
    cases hd with
    | int i =>
      refine iteT ⟨_, rfl, _, rfl, _, _, rfl, rfl, _, rfl, ?_⟩
      have q : Q (.bl (decide (a ≤ i ∧ i ≤ b))) H := q
      by_cases h1 : a ≤ i
      · rw [decide_eq_true h1]
        refine iteT ⟨_, rfl, _, _, rfl, rfl, ?_⟩
        have e : decide (a ≤ i ∧ i ≤ b) = decide (i ≤ b) := by simp [h1]
        rw [e] at q
        exact q
      · rw [decide_eq_false h1]
        have e : decide (a ≤ i ∧ i ≤ b) = false := by simp [h1]
        rw [e] at q
        exact iteF q
    | non => exact iteF q
    | bl b => exact iteF q
    | str x => exact iteF q
    | lst h1 h2 => exact iteF q
    | tup h1 h2 => exact iteF q

def sp_tuple_withinD (K : PySem.W.Frag) : Sp := fun vs H Q _ => ∃ (v : V) (d : PyData) (a b : Int), vs = [v, .int a, .int b] ∧ Dp K H v d ∧ Q (.bl (tupD d a b)) H
theorem okD_tuple_within (T : Tx K mg) : FnOk P w K mg base CX0 1 T.tuple_within.f T.tuple_within.fd ["thing", "low", "high"] (sp_tuple_withinD K) := by
  refine T.tuple_within.F.ok sc_tuple_within (fun vs H Q E h => ?_) (fun cdv A outer s H vs Q E hr h => ?_)
  · obtain ⟨v, d, a, b, rfl, _⟩ := h; rfl
  · obtain ⟨v, d, a, b, rfl, hd, q⟩ := h
    refine ⟨_, (pss_one (ps_ret (pe_and (pe_callB call_isi (by rfl) T.n_isinstance (by decide +kernel) (pa_cons (pv 0) (pa_cons (pe_bltn (v := .ty "tuple") (by rfl) T.n_tuple (by decide +kernel) rfl) pa_nil))) (pe_one (pe_chain op_le op_le (pv 1) (pe_callB call_len_seq (by rfl) T.n_len PySem.boot_len (pa_cons (pv 0) pa_nil)) (pv 2)))))), ?_⟩
    have ty := Dp.ty hd
    refine ⟨_, rfl, _, _, _, _, _, rfl, .ty _, ty, kit_ty (kit_tup d), _, rfl, ?_⟩
    cases hd with
    | @tup t xs ds ht hds =>
      have len := dpAll_len hds
      refine iteT ⟨_, rfl, _, rfl, t, xs, rfl, .inr ht, _, _, rfl, rfl, _, rfl, ?_⟩
      have q : Q (.bl (decide (a ≤ (ds.length : Int) ∧ (ds.length : Int) ≤ b))) H := q
      rw [← len] at q
      by_cases h1 : a ≤ (xs.length : Int)
      · rw [decide_eq_true h1]
        refine iteT ⟨_, rfl, _, _, rfl, rfl, ?_⟩
        have e : decide (a ≤ (xs.length : Int) ∧ (xs.length : Int) ≤ b) = decide ((xs.length : Int) ≤ b) := by simp [h1]
        rw [e] at q
        exact q
      · rw [decide_eq_false h1]
        have e : decide (a ≤ (xs.length : Int) ∧ (xs.length : Int) ≤ b) = false := by simp [h1]
        rw [e] at q
        exact iteF q
    | non => exact iteF q
    | bl b => exact iteF q
    | str x => exact iteF q
    | int i => exact iteF q
    | lst h1 h2 => exact iteF q
end
end Nv
set_option Elab.async false
set_option linter.all false
set_option maxRecDepth 100000
namespace Nv
open PySem PySem.Spec PyProof.Rows L2
section
variable {P : Program} {w : World} {K : PySem.W.Frag} {mg : Str → Option Value} {base : Heap}
/-! ### the book's form, of any data -/
def intD : PyData → Option Int
  | .int i => some i
  | _ => none
theorem pairD_two {last n : Int} {x y : PyData} : pairD last n (.tuple [x, y]) = if inD x (last + 1) 99 = true ∧ inD y 0 (n - 1) = true then intD x else none := by
  cases x with
  | int m =>
    cases y with
    | int t =>
      simp only [pairD, inD, intD, decide_eq_true_eq]
      by_cases h : last + 1 ≤ m ∧ m ≤ 99 ∧ 0 ≤ t ∧ t ≤ n - 1
      · rw [if_pos h, if_pos ⟨⟨h.1, h.2.1⟩, h.2.2.1, h.2.2.2⟩]
      · rw [if_neg h, if_neg fun z => h ⟨z.1.1, z.1.2, z.2.1, z.2.2⟩]
    | _ => simp [pairD, inD]
  | _ => simp [pairD, inD]
theorem pairD_not {last n : Int} {d : PyData} (h : tupD d 2 2 = false) : pairD last n d = none := by
  cases d with
  | tuple ds =>
    match ds, h with
    | [], _ => rfl
    | [x], _ => cases x <;> rfl
    | [x, y], h => exact absurd h (by show ¬ decide ((2 : Int) ≤ 2 ∧ (2 : Int) ≤ 2) = false; decide)
    | x :: y :: z :: r, _ => cases x <;> cases y <;> rfl
  | _ => rfl
theorem tupD_true {d : PyData} {a b : Int} (h : tupD d a b = true) : ∃ ds, d = .tuple ds ∧ a ≤ (ds.length : Int) ∧ (ds.length : Int) ≤ b := by
  cases d with
  | tuple ds => exact ⟨ds, rfl, of_decide_eq_true h⟩
  | _ => cases h
theorem pairs_drop {last n : Int} {ds : List PyData} {k : Nat} {d : PyData} (h : ds[k]? = some d) : pairsD last n (ds.drop k) = match pairD last n d with | some m => pairsD m n (ds.drop (k + 1)) | none => false := by
  obtain ⟨hk, e⟩ := List.getElem?_eq_some_iff.mp h
  rw [List.drop_eq_getElem_cons hk, e]
  rfl

def sp_has_state_formD (K : PySem.W.Frag) : Sp := fun vs H Q _ => ∃ (v : V) (d : PyData) (n : Int), vs = [v, .int n] ∧ Dp K H v d ∧ Q (.bl (stateD n d)) H
theorem okD_has_state_form (T : Tx K mg) : FnOk P w K mg base CX0 3 T.has_state_form.f T.has_state_form.fd ["thing", "many"] (sp_has_state_formD K) := by
  refine T.has_state_form.F.ok sc_has_state_form (fun vs H Q E h => ?_) (fun cdv A outer s H vs Q E hr h => ?_)
  · obtain ⟨v, d, n, rfl, _⟩ := h; rfl
  · obtain ⟨v, d, n, rfl, hd, q⟩ := h
    refine ⟨_, (pss_cons (ps_if (pt_not (pt_val (pe_call (okD_tuple_within T) (hr.mono (by decide)) (by rfl) T.tuple_within.g T.tuple_within.F.kp T.tuple_within.b .nil pass0 (pa_cons (pv 0) (pa_cons pe_int (pa_cons (pe_glob (v := .int 5) (by rfl) T.c_MOST_MESSAGES.choose_spec ⟨_, rfl⟩) pa_nil))))))
        (pss_one (ps_ret pe_bl))
        pss_nil)
      (pss_cons (ps_set (i := 2) sc_has_state_form.nd rfl (.inl rfl) (pe_un un_neg pe_int))
      (pss_cons (ps_for PassesOwn.never rfl (pi_tup (pv 0)) (pg_name (i := 3) sc_has_state_form.nd rfl (.inl rfl))
        (pss_cons (ps_if (pt_not (pt_val (pe_call (okD_tuple_within T) (hr.mono (by decide)) (by rfl) T.tuple_within.g T.tuple_within.F.kp T.tuple_within.b .nil pass0 (pa_cons (pv 3) (pa_cons pe_int (pa_cons pe_int pa_nil))))))
          (pss_one (ps_ret pe_bl))
          pss_nil)
        (pss_cons (ps_asg (pv 3) (pg_tup rfl (pgs_cons (pg_name (i := 4) sc_has_state_form.nd rfl (.inl rfl)) (pgs_cons (pg_name (i := 5) sc_has_state_form.nd rfl (.inl rfl)) pgs_nil))))
        (pss_cons (ps_if (PW.pt (pw_or (pt_not (pt_val (pe_call (okD_whole_within T) (hr.mono (by decide)) (by rfl) T.whole_within.g T.whole_within.F.kp T.whole_within.b .nil pass0 (pa_cons (pv 4) (pa_cons (pe_op op_add (pv 2) pe_int) (pa_cons (pe_glob (v := .int 99) (by rfl) T.c_GREATEST_MESSAGE.choose_spec ⟨_, rfl⟩) pa_nil)))))) (pw_or1 (pt_not (pt_val (pe_call (okD_whole_within T) (hr.mono (by decide)) (by rfl) T.whole_within.g T.whole_within.F.kp T.whole_within.b .nil pass0 (pa_cons (pv 5) (pa_cons pe_int (pa_cons (pe_op op_sub (pv 1) pe_int) pa_nil)))))))))
          (pss_one (ps_ret pe_bl))
          pss_nil)
        (pss_one (ps_set (i := 2) sc_has_state_form.nd rfl (.inl rfl) (pv 4)))))))
      (pss_one (ps_ret pe_bl))))), ?_⟩
    refine ⟨_, rfl, v, d, 0, 5, rfl, hd, _, rfl, ?_⟩
    cases ht : tupD d 0 5 with
    | false =>
      have e : stateD n d = false := by
        cases d with
        | tuple ds =>
          have ht : decide ((0 : Int) ≤ (ds.length : Int) ∧ (ds.length : Int) ≤ 5) = false := ht
          have h5 : ¬ ds.length ≤ 5 := fun z => by
            have := of_decide_eq_false ht
            omega
          show (decide (ds.length ≤ 5) && pairsD (-1) n ds) = false
          rw [decide_eq_false h5]
          rfl
        | _ => rfl
      rw [e] at q
      exact iteT q
    | true =>
      obtain ⟨ds, rfl, _, h5⟩ := tupD_true ht
      cases hd with
      | @tup t xs _ hT hds =>
        have len := dpAll_len hds
        have e : stateD n (.tuple ds) = pairsD (-1) n ds := by
          show (decide (ds.length ≤ 5) && pairsD (-1) n ds) = _
          rw [decide_eq_true (by omega)]
          rfl
        rw [e] at q
        refine iteF ⟨1, rfl, ?_⟩
        refine ⟨_, rfl, t, rfl, ⟨_, hT⟩, for_tup (K := K) (a := t) (xs := xs) (fun k σ H' => H' = H ∧ ∃ (z : Int) (y3 y4 y5 : Option V), σ = [some (.ref t), some (.int n), some (.int z), y3, y4, y5] ∧ pairsD (-1) n ds = pairsD z n (ds.drop k))
          ⟨rfl, -1, _, _, _, rfl, rfl⟩ (fun k σ H' _ ⟨e, _⟩ => by rw [e]; exact hT) ?_ ?_⟩
        · rintro k v σ H' hv ⟨rfl, z, y3, y4, y5, rfl, hz⟩
          obtain ⟨dk, hdk, hDp⟩ := dpAll_get' hds hv
          rw [hz, pairs_drop hdk] at q
          refine ⟨_, rfl, v, dk, 2, 2, rfl, hDp, _, rfl, ?_⟩
          cases h2 : tupD dk 2 2 with
          | false =>
            rw [pairD_not h2] at q
            exact iteT q
          | true =>
            obtain ⟨l2, rfl, l2a, l2b⟩ := tupD_true h2
            match l2, l2a, l2b with
            | [x, y], _, _ =>
              cases hDp with
              | @tup c ys _ hc hys =>
                cases hys with
                | @cons vx _ _ _ hx r =>
                  cases r with
                  | @cons vy _ _ _ hy r2 =>
                    cases r2
                    refine iteF ⟨_, rfl, c, _, rfl, hc, rfl, _, _, rfl, _, _, rfl, rfl, ?_⟩
                    rw [pairD_two] at q
                    refine ⟨_, rfl, _, rfl, _, _, rfl, rfl, vx, x, _, _, rfl, hx, _, rfl, ?_⟩
                    cases hix : inD x (z + 1) 99 with
                    | false =>
                      rw [hix, if_neg (fun w => by cases w.1)] at q
                      exact iteT q
                    | true =>
                      refine iteF ⟨_, rfl, _, rfl, _, _, rfl, rfl, vy, y, _, _, rfl, hy, _, rfl, ?_⟩
                      cases hiy : inD y 0 (n - 1) with
                      | false =>
                        rw [hix, hiy, if_neg (fun w => by cases w.2)] at q
                        exact iteT q
                      | true =>
                        rw [hix, hiy, if_pos ⟨rfl, rfl⟩] at q
                        cases hx with
                        | int m => 
                          refine iteF ⟨_, rfl, rfl, m, _, _, _, rfl, ?_⟩
                          rw [hz, pairs_drop hdk, pairD_two, hix, hiy, if_pos ⟨rfl, rfl⟩]
                          rfl
                        | non => cases hix
                        | bl b => cases hix
                        | str b => cases hix
                        | lst _ _ => cases hix
                        | tup _ _ => cases hix
        · rintro σ H' ⟨rfl, z, y3, y4, y5, rfl, hz⟩
          rw [hz, len, List.drop_length] at q
          exact q
end
end Nv
set_option Elab.async false
set_option linter.all false
set_option maxRecDepth 100000
namespace Nv
open PySem PySem.Spec PyProof.Rows L2
section
variable {P : Program} {w : World} {K : PySem.W.Frag} {mg : Str → Option Value} {base : Heap}
/-! ### what is raised -/
theorem sc_init : FnScope ["self", "what"] ["self", "what"] (defScope s_init) := ⟨rfl, rfl, rfl, by decide +kernel, rfl, by decide +kernel, by decide +kernel⟩
theorem ok_init (T : Tx K mg) : FnOk P w K mg base CX0 1 T.init.f T.init.fd ["self", "what"] (sp_init K) := by
  refine T.init.F.ok sc_init (fun vs H Q E h => ?_) (fun cdv A outer s H vs Q E hr h => ?_)
  · obtain ⟨a, C, y, nm, rfl, _⟩ := h; rfl
  · obtain ⟨a, C, y, nm, rfl, ha, o, no, nn, q⟩ := h
    refine ⟨_, (pss_cons (ps_ost (pv 0) (pv 1))
      (pss_one (ps_ost (pv 0) (pe_kind (pv 0))))), ?_⟩
    refine ⟨_, rfl, _, rfl, a, C, rfl, o, no, .inl ⟨ha, fun dx nd ne => ?_⟩⟩
    refine ⟨_, rfl, a, C, dx, _, nm, rfl, upd_same, by rw [upd_ne ne, upd_same], nn, _, rfl, a, C, rfl, o, nn.nk, .inr ⟨dx, _, upd_same, by rw [upd_ne ne, upd_same], by show 1 ≤ 900; decide, ?_⟩⟩
    have e : upd (upd (upd H dx (exd dx [("what", y)])) a (exo a C (some dx))) dx (exd dx [("kind", .str nm), ("what", y)]) = upd (upd H dx (exd dx [("kind", .str nm), ("what", y)])) a (exo a C (some dx)) := by
      funext b
      by_cases h1 : b = dx
      · rw [h1, upd_same, upd_ne ne, upd_same]
      · rw [upd_ne h1]
        by_cases h2 : b = a
        · rw [h2, upd_same, upd_same]
        · rw [upd_ne h2, upd_ne h2, upd_ne h1, upd_ne h1]
    rw [e]
    exact q dx nd ne

def sp_check_formX (K : PySem.W.Frag) (C : Addr) : Sp := fun vs H Q E => ∃ (v : V) (d : PyData), vs = [v] ∧ Dp K H v d ∧ (formErr d = none → Q .non H) ∧ ∀ e, formErr d = some e → ∀ dx, H dx = none → E (.ref C) (some dx) (upd H dx (xdW "BadBook" (.int e)))
theorem okX_check_form (T : Tx K mg) : FnOk P w K mg base (L2.CX P w) 4 T.check_form.f T.check_form.fd ["thing"] (sp_check_formX K T.x_BadBook.C) := by
  refine T.check_form.F.okX sc_check_form (fun vs H Q E h => ?_) (fun cdv A outer s H vs Q E hr h => ?_)
  · obtain ⟨v, d, rfl, _⟩ := h; rfl
  · obtain ⟨v, d, rfl, hd, q, qe⟩ := h
    refine ⟨_, (pss_cons (ps_if (pt_not (pt_val (pe_call (okD_tuple_within T) (hr.mono (by decide)) (by rfl) T.tuple_within.g T.tuple_within.F.kp T.tuple_within.b .nil pass0 (pa_cons (pv 0) (pa_cons pe_int (pa_cons (pe_glob (v := .int 8) (by rfl) T.c_MOST_STATES.choose_spec ⟨_, rfl⟩) pa_nil))))))
        (pss_one (ps_raise rfl (takes_of rfl rfl rfl rfl) (pmk_X T.x_BadBook T.init.ti (ok_init T) (hr.mono (by decide)) T.init.b (by rfl) (pe_un un_neg pe_int))))
        pss_nil)
      (pss_one (ps_for (passes_of rfl) rfl (pi_range1 (by rfl) T.n_range (pa_cons (pe_callB call_len_seq (by rfl) T.n_len PySem.boot_len (pa_cons (pv 0) pa_nil)) pa_nil)) (pg_name (i := 1) sc_check_form.nd rfl (.inl rfl))
        (pss_one (ps_if (pt_not (pt_val (pe_call (okD_has_state_form T) (hr.mono (by decide)) (by rfl) T.has_state_form.g T.has_state_form.F.kp T.has_state_form.b .nil pass0 (pa_cons (pe_ix ix_tup (pv 0) (pv 1) (fun _ _ => rfl)) (pa_cons (pe_callB call_len_seq (by rfl) T.n_len PySem.boot_len (pa_cons (pv 0) pa_nil)) pa_nil)))))
          (pss_one (ps_raise rfl (takes_of rfl rfl rfl rfl) (pmk_X T.x_BadBook T.init.ti (ok_init T) (hr.mono (by decide)) T.init.b (by rfl) (pv 1))))
          pss_nil))))), ?_⟩
    refine ⟨_, rfl, v, d, 1, 8, rfl, hd, _, rfl, ?_⟩
    cases ht : tupD d 1 8 with
    | false =>
      have e : formErr d = some (-1) := by
        cases d with
        | tuple ds =>
          have ht : decide ((1 : Int) ≤ (ds.length : Int) ∧ (ds.length : Int) ≤ 8) = false := ht
          show (if 1 ≤ ds.length ∧ ds.length ≤ 8 then firstBad ds.length ds 0 else some (-1)) = some (-1)
          rw [if_neg]
          intro z
          have := of_decide_eq_false ht
          omega
        | _ => rfl
      exact iteT ⟨1, rfl, fun dx nd => qe _ e dx nd⟩
    | true =>
      obtain ⟨ds, rfl, l1, l8⟩ := tupD_true ht
      cases hd with
      | @tup t xs _ hT hds =>
        have len := dpAll_len hds
        have e : formErr (.tuple ds) = firstBad ds.length ds 0 := by
          show (if 1 ≤ ds.length ∧ ds.length ≤ 8 then firstBad ds.length ds 0 else some (-1)) = _
          rw [if_pos ⟨by omega, by omega⟩]
        rw [e] at q qe
        refine iteF ⟨_, rfl, t, _, rfl, .inr hT, _, rfl, by omega, by omega, for_range (lo := 0) (n := _) (fun k σ H' => H' = H ∧ ∃ y : Option V, σ = [some (.ref t), y] ∧ firstBad ds.length ds 0 = firstBad ds.length (ds.drop k) k) ⟨rfl, _, rfl, rfl⟩ ?_ ?_⟩
        · rintro k σ H' hk ⟨rfl, y, rfl, hb⟩
          have hk : k < ds.length := by
            have : ((xs.length : Int)).toNat = xs.length := Int.toNat_natCast _
            omega
          simp only [Int.zero_add]
          obtain ⟨vk, hvk, hDk⟩ := dpAll_get hds (List.getElem?_eq_getElem hk)
          have step : firstBad ds.length (ds.drop k) k = if stateD ds.length ds[k] = true then firstBad ds.length (ds.drop (k + 1)) (k + 1) else some (k : Int) := by
            rw [List.drop_eq_getElem_cons hk]
            rfl
          refine ⟨_, rfl, _, rfl, t, _, _, _, rfl, rfl, hT, atI_nat hvk, _, rfl, t, _, rfl, .inr hT, vk, ds[k], _, rfl, hDk, _, rfl, ?_⟩
          rw [len]
          cases hs : stateD ds.length ds[k] with
          | true =>
            rw [hs, if_pos rfl] at step
            exact iteF ⟨rfl, _, rfl, hb.trans step⟩
          | false =>
            rw [hs, if_neg (by simp)] at step
            exact iteT ⟨_, rfl, fun dx nd => qe _ (hb.trans step) dx nd⟩
        · rintro σ H' ⟨rfl, y, rfl, hb⟩
          have : ((xs.length : Int)).toNat = ds.length := by omega
          rw [this, List.drop_length] at hb
          exact q hb
end
end Nv
set_option Elab.async false
set_option linter.all false
set_option maxRecDepth 100000
namespace Nv
open PySem PySem.Spec PyProof.Rows L2
section
variable {P : Program} {w : World} {K : PySem.W.Frag} {mg : Str → Option Value} {base : Heap}
/-! ### books as data -/
def stD (s : State) : PyData := .tuple (s.map mvD)
def bookD (b : Book) : PyData := .tuple (b.map stD)
theorem pairs_st {n : Nat} : ∀ (s : State) (last : Int), (s.map (·.1)).Pairwise (· < ·) → (∀ p ∈ s, last < (p.1 : Int)) → (∀ p ∈ s, p.1 ≤ 99) → (∀ p ∈ s, p.2 < n) → pairsD last n (s.map mvD) = true
  | [], _, _, _, _, _ => rfl
  | p :: r, last, h1, h2, h3, h4 => by
    rw [List.map_cons, List.pairwise_cons] at h1
    have a := h2 p (by simp)
    have b := h3 p (by simp)
    have c := h4 p (by simp)
    have e : pairD last n (mvD p) = some (p.1 : Int) := by
      show (if last + 1 ≤ (p.1 : Int) ∧ (p.1 : Int) ≤ 99 ∧ (0 : Int) ≤ p.2 ∧ (p.2 : Int) ≤ n - 1 then some (p.1 : Int) else none) = _
      rw [if_pos ⟨by omega, by omega, by omega, by omega⟩]
    rw [List.map_cons, pairs_cons, e]
    refine pairs_st r (p.1 : Int) h1.2 (fun q hq => ?_) (fun q hq => h3 q (List.mem_cons_of_mem _ hq)) (fun q hq => h4 q (List.mem_cons_of_mem _ hq))
    have := h1.1 q.1 (List.mem_map.mpr ⟨q, hq, rfl⟩)
    omega
theorem state_ok {n : Nat} {s : State} (h : StOk n s) : stateD n (stD s) = true := by
  show (decide ((s.map mvD).length ≤ 5) && pairsD (-1) n (s.map mvD)) = true
  rw [pairs_st s (-1) h.rise (fun p _ => by omega) h.msg h.to, List.length_map, decide_eq_true h.few]
  rfl
theorem first_ok {n : Nat} : ∀ (l : List PyData) (i : Nat), (∀ d ∈ l, stateD n d = true) → firstBad n l i = none
  | [], _, _ => rfl
  | d :: r, i, h => by
    show (if stateD n d = true then firstBad n r (i + 1) else some (i : Int)) = none
    rw [if_pos (h d (by simp)), first_ok r (i + 1) fun e he => h e (List.mem_cons_of_mem _ he)]
theorem form_none {b : Book} (fb : FormB b) : formErr (bookD b) = none := by
  show (if 1 ≤ (b.map stD).length ∧ (b.map stD).length ≤ 8 then firstBad (b.map stD).length (b.map stD) 0 else some (-1)) = none
  rw [List.length_map, if_pos ⟨fb.one, fb.eight⟩]
  refine first_ok _ _ fun d hd => ?_
  obtain ⟨s, hs, rfl⟩ := List.mem_map.mp hd
  exact state_ok (fb.st s hs)
theorem first_at {n : Nat} : ∀ (l : List PyData) (i k : Nat) (d : PyData), l[k]? = some d → stateD n d = false → (∀ j e, j < k → l[j]? = some e → stateD n e = true) → firstBad n l i = some ((i + k : Nat) : Int)
  | [], _, _, _, h, _, _ => by simp at h
  | d :: r, i, 0, e, h, hb, _ => by
    cases h
    show (if stateD n d = true then firstBad n r (i + 1) else some (i : Int)) = _
    rw [if_neg (by rw [hb]; simp)]
    rfl
  | d :: r, i, k + 1, e, h, hb, hok => by
    show (if stateD n d = true then firstBad n r (i + 1) else some (i : Int)) = _
    rw [if_pos (hok 0 d (Nat.zero_lt_succ _) rfl), first_at r (i + 1) k e (by simpa using h) hb fun j f hj hf => hok (j + 1) f (by omega) (by simpa using hf)]
    congr 2
    omega
theorem mv_of {K : PySem.W.Frag} {H : Hp} : ∀ {s : State} {vs : List V}, DpAll K H vs (s.map mvD) → ∃ ps : List Addr, vs = ps.map V.ref ∧ Paired (MvV K H) ps s
  | [], _, .nil => ⟨[], rfl, .nil⟩
  | p :: r, _, .cons h t => by
    obtain ⟨ps, e, hp⟩ := mv_of t
    cases h with
    | tup hc hds =>
      cases hds with
      | cons h1 r1 =>
        cases r1 with
        | cons h2 r2 =>
          cases r2
          cases h1
          cases h2
          exact ⟨_ :: ps, by rw [e]; rfl, .cons hc hp⟩
theorem bk_of {K : PySem.W.Frag} {H : Hp} : ∀ {b : Book} {vs : List V}, DpAll K H vs (b.map stD) → Paired (StW K H) vs b
  | [], _, .nil => .nil
  | s :: r, _, .cons h t => by
    cases h with
    | tup hc hds =>
      obtain ⟨ps, rfl, hp⟩ := mv_of hds
      exact .cons ⟨_, ps, rfl, hc, hp⟩ (bk_of t)
theorem BkW.of {K : PySem.W.Frag} {H : Hp} {v : V} {b : Book} (h : Dp K H v (bookD b)) : BkW K H v b := by
  cases h with
  | tup hc hds => exact ⟨_, _, rfl, hc, bk_of hds⟩
/-! ### what made_book raises -/
/-- the first state to which no row comes -/
def StrayAt (b : Book) (s : Nat) : Prop := s < b.length ∧ ¬ Rch b s ∧ ∀ t, t < s → Rch b t
theorem Met.rch {b : Book} {F : List Nat} (m : Met b F) : ∀ (n j s : Nat), j ≤ n → F[j]? = some s → Rch b s := by
  intro n
  induction n with
  | zero =>
    intro j s hj e
    have : j = 0 := by omega
    subst this
    rw [m.zero] at e
    cases e
    exact .zero
  | succ n ih =>
    intro j s hj e
    by_cases h0 : j = 0
    · subst h0
      rw [m.zero] at e
      cases e
      exact .zero
    · obtain ⟨i, s', hi, hs', p, hp, rfl⟩ := m.from_ j s e h0
      exact .step (ih i s' (by omega) hs') hp
theorem Met.iff {b : Book} {F : List Nat} (m : Met b F) (s : Nat) : s ∈ F ↔ Rch b s := by
  constructor
  · intro h
    obtain ⟨j, hj, e⟩ := List.mem_iff_getElem.mp h
    exact m.rch j j s (Nat.le_refl _) (by rw [List.getElem?_eq_getElem hj, e])
  · exact m.all
/-- refused: a wrong form, or a stray -/
inductive Ref (CB CS : Addr) (d : PyData) : Addr → Int → Prop
  | form {e : Int} : formErr d = some e → Ref CB CS d CB e
  | stray {b : Book} {s : Nat} : d = bookD b → FormB b → StrayAt b s → Ref CB CS d CS s
/-- the way out of a refusal -/
def Outs (H : Hp) (E : XK) (C : Addr) (e : Int) : Prop := ∀ dx H', H dx = none → XdAt H' dx (.int e) → Ext [] H H' → E (.ref C) (some dx) H'
def sp_refused (K : PySem.W.Frag) (CB CS : Addr) : Sp := fun vs H _ E => ∃ (v : V) (d : PyData) (C : Addr) (e : Int), vs = [v] ∧ Dp K H v d ∧ Ref CB CS d C e ∧ Outs H E C e

theorem okX_made_book (T : Tx K mg) : FnOk P w K mg base (L2.CX P w) 5 T.made_book.f T.made_book.fd ["thing"] (sp_refused K T.x_BadBook.C T.x_Stray.C) := by
  refine T.made_book.F.okX sc_made_book (fun vs H Q E h => ?_) (fun cdv A outer s H vs Q E hr h => ?_)
  · obtain ⟨v, d, C, e, rfl, _⟩ := h; rfl
  · obtain ⟨v, d, C, e, rfl, hd, href, q⟩ := h
    refine ⟨_, (pss_cons (ps_expr (pe_call (okX_check_form T) (hr.mono (by decide)) (by rfl) T.check_form.g T.check_form.F.kp T.check_form.b .nil (passes_call (takes_of rfl rfl rfl rfl) (fun _ _ _ _ h => h)) (pa_cons (pv 0) pa_nil)))
      (pss_cons (ps_set (i := 1) sc_made_book.nd rfl (.inl rfl) (pe_call (ok_first_rows T) (hr.mono (by decide)) (by rfl) T.first_rows.g T.first_rows.F.kp T.first_rows.bD.choose_spec.2 T.first_rows.bD.choose_spec.1 pass0 (pa_cons (pv 0) pa_nil)))
      (pss_cons (ps_for (passes_of rfl) rfl (pi_range1 (by rfl) T.n_range (pa_cons (pe_callB call_len_seq (by rfl) T.n_len PySem.boot_len (pa_cons (pv 0) pa_nil)) pa_nil)) (pg_name (i := 2) sc_made_book.nd rfl (.inl rfl))
        (pss_one (ps_if (pt_cmp (pc_dnotin (hu_of hr) (pv 2) (pv 1)))
          (pss_one (ps_raise rfl (takes_of rfl rfl rfl rfl) (pmk_X T.x_Stray T.init.ti (ok_init T) (hr.mono (by decide)) T.init.b (by rfl) (pv 2))))
          pss_nil)))
      (PSs.nox (pss_one (ps_ret (pv 0))))))), ?_⟩
    refine ⟨_, rfl, v, d, rfl, hd, ?_⟩
    cases href with
    | form he => exact ⟨fun h => (by rw [he] at h; cases h), fun e2 he2 dx nd => (by rw [he] at he2; cases he2; exact q dx _ nd ⟨_, upd_same⟩ (.new nd))⟩
    | @stray b st eb fb hst =>
      subst eb
      have fn := form_none fb
      refine ⟨fun _ => ?_, fun e2 he2 => (by rw [fn] at he2; cases he2)⟩
      have hw := BkW.of hd
      refine ⟨_, rfl, v, b, rfl, hw, fb, fun F kvs dd H' mt hk hdd e => ?_⟩
      obtain ⟨a, ls, rfl, ha, hls⟩ := hw
      have llen := Paired.len hls
      have h8 := fb.eight
      obtain ⟨s1, s2, s3⟩ := hst
      refine ⟨_, rfl, a, _, rfl, .inr (e.tup Lsts.nil ha), _, rfl, by omega, by omega, for_range (lo := 0) (n := _) (fun k σ H2 => H2 = H' ∧ k ≤ st ∧ ∃ y : Option V, σ = [some (.ref a), some (.ref dd), y]) ⟨rfl, Nat.zero_le _, _, rfl⟩ ?_ ?_⟩
      · rintro k σ H2 hk' ⟨rfl, hle, y, rfl⟩
        simp only [Int.zero_add]
        refine ⟨_, rfl, _, rfl, dd, _, rfl, DGet.k (k := kN k) hdd, _, rfl, ?_⟩
        rw [valV_key hk]
        by_cases hks : k = st
        · subst hks
          rw [decide_eq_false (fun z => s2 ((mt.iff _).mp z))]
          refine iteT ⟨_, rfl, fun dx nd => q dx _ (e.free nd) ⟨_, upd_same⟩ (e.put2 nd)⟩
        · rw [decide_eq_true ((mt.iff _).mpr (s3 k (by omega)))]
          exact iteF ⟨rfl, by omega, _, rfl⟩
      · rintro σ H2 ⟨rfl, hle, y, rfl⟩
        exfalso
        have : ((ls.length : Int)).toNat = ls.length := Int.toNat_natCast _
        omega
end
end Nv
set_option Elab.async false
set_option linter.all false
set_option maxRecDepth 100000
namespace Nv
open PySem PySem.Spec PyProof.Rows L2
open LamX in
/-- the end of a law some of whose defs make lambdas: Ts, their code objects, each with its table -/
theorem endGTs {l : PySem.W.OpenLaw} {n k : Nat} {q : Program} {loose : List Str} {XP : (Str → Option Value) → Heap → Prop} {YP : World → Heap → Prop} {d : DefRec} {K : Params → PySem.W.Frag} {sp : PySem.W.Frag → List (Addr × Addr) → Sp} {x : Str} {Ts : List (Addr × Addr)}
    (hn : l.most = some n) (hn2 : n ≤ sizeLine) (hdf : d.params.defaults = []) (hr : Room k callerA) (hY : ∀ (w : World) (h : Heap), YP w h → (K w.params).In h) (hP : ∀ (w : World) (h : Heap), YP w h → ∀ p ∈ Ts, h.get? p.2 = some { cls := .none, data := .fields #[] })
    (F : ∀ (w : World) (mg : Str → Option Value) (fa : Addr) (h : Heap), (K w.params).In h → h.Ns mainGlobals mg → mg d.name = some (.ref fa) →
      (∀ p ∈ Ts, (K w.params).lookup p.2 = none ∧ PySem.W.codeHdIn (K w.params) p.1 p.2 = true) ∧
      ∃ fd : FuncData, (∀ (s : Shared) (u : Value), BindsTo s fd ⟨[u], []⟩ [(x, u)]) ∧ ∀ base : Heap, (K w.params).In base → base.Ns mainGlobals mg → (∀ p ∈ Ts, TabB base mg p.1 p.2) → FnG l.prog w (K w.params) mg base CX0 k fa fd [x] (sp (K w.params) Ts))
    (hsp : ∀ (K : PySem.W.Frag) (H : Hp) (a : Addr) (ns : List Int), ns.length ≤ n → SqL K H a (ns.map V.int) → (∀ p ∈ Ts, H p.2 = some (.tbl #[])) → sp K Ts [.ref a] H (fun v _ => v = .bl true) fun _ _ _ => False) :
    PySem.W.WalkO q loose XP YP l.row.toRowW d [] (fun f vs => PySem.call f vs) := by
  refine Att.attach_call hn hdf fun w s₀ s1 mg mb fa o pm cd doc a vs ns G Y ho hd hcd hmg hobj hints hlen hg => ?_
  have KX := hY w _ Y
  have hP := hP w _ Y
  obtain ⟨nC, fd, hb, hF⟩ := F w mg fa _ KX G.T.g hmg
  have small : ns.length ≤ sizeLine := Nat.le_trans hlen hn2
  obtain ⟨Z, only, seen, hok, dom⟩ := script_gone (P := l.prog) (w := w) KX hobj hints small
  have aP : ∀ p ∈ Ts, a ≠ p.2 := fun p hp z => by
    rw [z, hP p hp] at hobj
    cases hobj
  let isT : Addr → Prop := fun b => ∃ p ∈ Ts, b = p.2
  have isT0 : ∀ b, isT b → s1.heap.get? b = some { cls := .none, data := .fields #[] } := fun b ⟨p, hp, e⟩ => by rw [e]; exact hP p hp
  haveI : DecidablePred isT := fun b => Classical.propDecidable _
  have aT : ¬ isT a := fun ⟨p, hp, e⟩ => aP p hp e
  obtain ⟨H, eH⟩ : ∃ H : Hp, H = fun b => if isT b then some (.tbl #[]) else Z b := ⟨_, rfl⟩
  have HP : ∀ b, isT b → H b = some (.tbl #[]) := fun b hb => by rw [eH]; exact if_pos hb
  have Ho : ∀ b, ¬ isT b → H b = Z b := fun b hb => by rw [eH]; exact if_neg hb
  have seen : SqL (K w.params) H a (ns.map V.int) := by
    rcases seen with (z | ⟨ob, z⟩) | z
    · exact .inl (.inl (by rw [Ho a aT]; exact z))
    · exact .inl (.inr ⟨ob, by rw [Ho a aT]; exact z⟩)
    · exact .inr z
  have what : ∀ b u, H b = some u → (isT b ∧ u = .tbl #[]) ∨ (¬ isT b ∧ b = a ∧ (K w.params).lookup a = none ∧ ∃ ob ys, u = .frz ob (.lst ys) ∧ Z b = some u) := fun b u e => by
    by_cases hb : isT b
    · rw [HP b hb] at e
      exact .inl ⟨hb, (Option.some.inj e).symm⟩
    · rw [Ho b hb] at e
      obtain ⟨h1, h2⟩ := dom b u e
      rcases only b with z | ⟨ob, ys, z⟩
      · rw [z] at e; cases e
      · rw [z] at e
        exact .inr ⟨hb, h1, h2, ob, ys, (Option.some.inj e).symm, by rw [z]; exact e⟩
  have hok : HOk l.prog w H s1.heap := fun b u e => by
    rcases what b u e with ⟨hb, rfl⟩ | ⟨_, _, _, ob, ys, rfl, z⟩
    · exact isT0 b hb
    · exact hok b _ z
  have free : ∀ {b : Addr} {o : Obj}, s1.heap.get? b = some o → (∀ xs k, o.data ≠ .seq xs k) → o.data ≠ .fields #[] → H b = none := fun {b o} e n1 n2 => by
    cases q : H b with
    | none => rfl
    | some u =>
      rcases what b u q with ⟨hb, _⟩ | ⟨_, rfl, _⟩
      · rw [isT0 b hb] at e
        cases e
        exact (n2 rfl).elim
      · rw [hobj] at e
        cases e
        exact (n1 _ _ rfl).elim
  have dk : ∀ {b : Addr} {o : Obj} {es : Array DictEntry} {ep : Nat}, s1.heap.get? b = some o → o.data = .dict es ep → H b = none := fun {b o es ep} e dd => free e (by rw [dd]; intro _ _ z; cases z) (by rw [dd]; intro z; cases z)
  have ns : ∀ {b : Addr} {m : Str → Option Value}, s1.heap.Ns b m → (hidT s1.heap H).Ns b m := fun {b m} ⟨o, es, ep, e, dd, r⟩ => ⟨o, es, ep, hidT_get e (dk e dd), dd, r⟩
  have inK : (K w.params).In (hidT s1.heap H) := fun b o e => hidT_get (KX b o e) (by
    cases q : H b with
    | none => rfl
    | some u =>
      rcases what b u q with ⟨⟨p, hp, rfl⟩, _⟩ | ⟨_, rfl, z, _⟩
      · rw [(nC p hp).1] at e; cases e
      · rw [z] at e; cases e)
  have M : Mod (K w.params) mg (hidT s1.heap H) := ⟨inK, ns G.T.g, ⟨mb, ns G.T.b, G.T.builtins⟩, let ⟨mc, h1, h2⟩ := G.T.nolimit; ⟨mc, ns h1, h2⟩⟩
  have e0 : Env0 l.prog w (K w.params) mg (hidT s1.heap H) callerA [] s1 H := ⟨rfl, M, fun b o e => of_hidT e, Nat.le_of_eq (hidT_size _ _), trivial, fun b z => absurd (show b ∈ ([] : List Addr) from z) (by simp), hok, AllBare.of_eq hg⟩
  have gP : ∀ P, isT P → mainGlobals ≠ P := fun P hb z => by
    obtain ⟨o, es, ep, e, dd, _⟩ := G.T.g
    rw [z, isT0 P hb] at e
    cases e
    cases dd
  have bmP : ∀ P, isT P → (hidT s1.heap H).BuiltinsAt mg P := fun P hb => by
    obtain ⟨bm, ob, b1, b2, b3, b4, b5, b6⟩ := G.T.bmain
    refine ⟨bm, ob, b1, b2, fun z => ?_, fun z => ?_, hidT_get b3 (free b3 (by rw [b6]; intro _ _ z; cases z) (by rw [b6]; intro z; cases z)), b4, b5, b6⟩
    · obtain ⟨o, es, ep, e, dd, _⟩ := G.T.g
      rw [z, e] at b3
      cases b3
      rw [dd] at b6
      cases b6
    · rw [z, isT0 P hb] at b3
      cases b3
      cases b6
  have TB : ∀ p ∈ Ts, TabB (hidT s1.heap H) mg p.1 p.2 := fun p hp => ⟨PySem.W.codeHd_of_K inK (nC p hp).2, bmP _ ⟨p, hp, rfl⟩, gP _ ⟨p, hp, rfl⟩⟩
  refine codeAny_mono ((hF _ inK (ns G.T.g) TB).run callerA [] s1 H ⟨[.ref a], []⟩ [.ref a] [.ref a] _ _ rfl hr e0 (hb s1 (.ref a)) (.cons rfl .nil) (hsp _ H a _ hlen seen fun p hp => HP _ ⟨p, hp, rfl⟩)) fun r s' h => ?_
  rcases r with e | fl
  · exact (h : False).elim
  · cases fl with
    | next => exact (h : False).elim
    | brk => exact (h : False).elim
    | cont => exact (h : False).elim
    | ret u =>
      obtain ⟨v, H', os, bare, un, hok', rv, qv⟩ := h
      obtain rfl : v = .bl true := qv
      obtain rfl : u = Value.bool true := rv
      have mores : ∀ b, isT b → ∃ more : Array Value, s'.heap.get? b = some { cls := .none, data := .fields more } := fun b hb => by
        obtain ⟨more, z⟩ := un.tbls b #[] (HP b hb)
        exact ⟨_, hok' b _ z⟩
      have stays : ∀ b o, ¬ isT b → s1.heap.get? b = some o → s'.heap.get? b = some o := fun b o hb e => by
        cases z : H b with
        | none => exact un.keep b o e z (fun z => absurd (show b ∈ ([] : List Addr) from z) (by simp)) (by simp)
        | some u =>
          rcases what b u z with ⟨z2, _⟩ | ⟨_, _, _, ob, ys, rfl, _⟩
          · exact absurd z2 hb
          · obtain ⟨g1, _⟩ := hok b _ z
            obtain ⟨g2, _⟩ := hok' b _ (un.frzs b ob _ z)
            rw [e] at g1
            cases g1
            exact g2
      refine ⟨rfl, ⟨fun b o e => ?_, fun b o e => ?_⟩, os, bare⟩
      · by_cases hb : isT b
        · obtain ⟨more, ht⟩ := mores b hb
          obtain ⟨p, hp, rfl⟩ := hb
          have hPp := hP p hp
          rw [hPp] at e
          cases e
          exact .inr (.inl ⟨((PySem.W.codeHd_of_K KX (nC p hp).2).tab hPp).isCodeTable, rfl, #[], more, rfl, by rw [Array.empty_append]; exact ht⟩)
        · exact .inl (stays b o hb e)
      · by_cases hb : isT b
        · obtain ⟨more, ht⟩ := mores b hb
          exact ⟨_, ht⟩
        · exact ⟨o, stays b o hb e⟩
end Nv
set_option linter.all false
namespace Nv
/-! ### the order in which states are met -/
def addS (F : List Nat) : State → List Nat
  | [] => F
  | p :: r => addS (if p.2 ∈ F then F else F ++ [p.2]) r
def stB (b : Book) : Nat → List Nat
  | 0 => [0]
  | i + 1 => match (stB b i)[i]? with
    | some s => addS (stB b i) (mvs b s)
    | none => stB b i
def ordB (b : Book) : List Nat := stB b b.length
theorem addS_append : ∀ (l r : State) (F : List Nat), addS F (l ++ r) = addS (addS F l) r
  | [], _, _ => rfl
  | p :: l, r, F => by
    show addS _ (l ++ r) = addS (addS _ l) r
    exact addS_append l r _
theorem addS_take {F G : List Nat} {p : Nat × Nat} {ms : State} {k : Nat} (h : ms[k]? = some p) (e : F = addS G (ms.take k)) : addS G (ms.take (k + 1)) = if p.2 ∈ F then F else F ++ [p.2] := by
  rw [List.take_add_one, h]
  show addS G (ms.take k ++ [p]) = _
  rw [addS_append, ← e]
  rfl
theorem addS_pre : ∀ (l : State) (F : List Nat), F <+: addS F l
  | [], F => List.prefix_refl _
  | p :: l, F => by
    show F <+: addS (if p.2 ∈ F then F else F ++ [p.2]) l
    split
    · exact addS_pre l F
    · exact (List.prefix_append _ _).trans (addS_pre l _)
theorem stB_step {b : Book} {i s : Nat} (h : (stB b i)[i]? = some s) : stB b (i + 1) = addS (stB b i) (mvs b s) := by
  show (match (stB b i)[i]? with
    | some s => addS (stB b i) (mvs b s)
    | none => stB b i) = _
  rw [h]
theorem stB_rest {b : Book} {i : Nat} (h : (stB b i).length ≤ i) : ∀ k, stB b (i + k) = stB b i
  | 0 => rfl
  | k + 1 => by
    have ih := stB_rest h k
    show (match (stB b (i + k))[i + k]? with
      | some s => addS (stB b (i + k)) (mvs b s)
      | none => stB b (i + k)) = _
    rw [ih, List.getElem?_eq_none (by omega)]
theorem stB_pre {b : Book} (i : Nat) : ∀ k, stB b i <+: stB b (i + k)
  | 0 => List.prefix_refl _
  | k + 1 => by
    refine (stB_pre i k).trans ?_
    show stB b (i + k) <+: (match (stB b (i + k))[i + k]? with
      | some s => addS (stB b (i + k)) (mvs b s)
      | none => stB b (i + k))
    split
    · exact addS_pre _ _
    · exact List.prefix_refl _
theorem stB_end {b : Book} {i : Nat} (h : (stB b i).length ≤ i) (hi : i ≤ b.length) : ordB b = stB b i := by
  obtain ⟨k, hk⟩ := Nat.le.dest hi
  unfold ordB
  rw [← hk]
  exact stB_rest h k
structure MetIO (b : Book) (F : List Nat) (i : Nat) : Prop extends MetI b F i where
  eq : F = stB b i
structure MetWO (b : Book) (F : List Nat) (i s k : Nat) : Prop extends MetW b F i s k where
  eq : F = addS (stB b i) ((mvs b s).take k)
structure MetO (b : Book) (F : List Nat) : Prop extends Met b F where
  eq : F = ordB b
theorem MetIO.first {b : Book} (h : 1 ≤ b.length) : MetIO b [0] 0 := ⟨.first h, rfl⟩
theorem MetIO.begin {b : Book} {F : List Nat} {i s : Nat} (m : MetIO b F i) (h : F[i]? = some s) : MetWO b F i s 0 := ⟨m.toMetI.begin h, by rw [m.eq]; rfl⟩
theorem MetWO.skip {b : Book} {F : List Nat} {i s k : Nat} {p : Nat × Nat} (m : MetWO b F i s k) (h : (mvs b s)[k]? = some p) (hp : p.2 ∈ F) : MetWO b F i s (k + 1) := ⟨m.toMetW.skip h hp, by rw [addS_take h m.eq, if_pos hp]⟩
theorem MetWO.push {b : Book} {F : List Nat} {i s k : Nat} {p : Nat × Nat} (m : MetWO b F i s k) (h : (mvs b s)[k]? = some p) (hp : p.2 ∉ F) (hb : p.2 < b.length) : MetWO b (F ++ [p.2]) i s (k + 1) := ⟨m.toMetW.push h hp hb, by rw [addS_take h m.eq, if_neg hp]⟩
theorem MetWO.pre {b : Book} {F : List Nat} {i s k : Nat} (m : MetWO b F i s k) : stB b i <+: F := by
  rw [m.eq]
  exact addS_pre _ _
theorem stB_len (b : Book) : ∀ i, 1 ≤ (stB b i).length
  | 0 => Nat.le_refl _
  | i + 1 => by
    have h := (stB_pre (b := b) i 1).length_le
    have := stB_len b i
    show 1 ≤ (stB b (i + 1)).length
    omega
theorem MetWO.done {b : Book} {F : List Nat} {i s k : Nat} (m : MetWO b F i s k) (g : (stB b i)[i]? = some s) (hk : (mvs b s).length ≤ k) : MetIO b F (i + 1) := ⟨m.toMetW.done hk, by
  rw [stB_step g, m.eq, List.take_of_length_le hk]⟩
theorem MetIO.met {b : Book} {F : List Nat} {i : Nat} (m : MetIO b F i) (h : i = F.length) : MetO b F := ⟨m.toMetI.met (.inl h), by
  rw [stB_end (i := i) (by rw [← m.eq]; omega) (by rw [h]; exact nodup_le m.nd m.lt)]
  exact m.eq⟩
theorem metO {b : Book} (fb : FormB b) : MetO b (ordB b) := by
  have row : ∀ {F : List Nat} {i s : Nat}, MetIO b F i → F[i]? = some s → ∀ k, k ≤ (mvs b s).length → ∃ F', MetWO b F' i s k := by
    intro F i s mi hs k
    induction k with
    | zero => exact fun _ => ⟨F, mi.begin hs⟩
    | succ k ih =>
      intro hk
      obtain ⟨F', mw⟩ := ih (by omega)
      have hp : (mvs b s)[k]? = some (mvs b s)[k] := List.getElem?_eq_getElem (by omega)
      by_cases hin : (mvs b s)[k].2 ∈ F'
      · exact ⟨F', mw.skip hp hin⟩
      · exact ⟨_, mw.push hp hin (fb.to (List.getElem_mem _))⟩
  have all : ∀ n, ∃ i F, MetIO b F i ∧ (i = F.length ∨ i = n) := by
    intro n
    induction n with
    | zero => exact ⟨0, [0], .first fb.one, .inr rfl⟩
    | succ n ih =>
      obtain ⟨i, F, mi, h⟩ := ih
      by_cases hi : i < F.length
      · have hs : F[i]? = some F[i] := List.getElem?_eq_getElem hi
        obtain ⟨F', mw⟩ := row mi hs _ (Nat.le_refl _)
        have g : (stB b i)[i]? = some F[i] := by rw [← mi.eq]; exact hs
        refine ⟨i + 1, F', mw.done g (Nat.le_refl _), .inr ?_⟩
        omega
      · have := mi.le
        exact ⟨i, F, mi, .inl (by omega)⟩
  obtain ⟨i, F, mi, h⟩ := all b.length
  have h1 : F.length ≤ b.length := nodup_le mi.nd mi.lt
  have h2 := mi.le
  have mo := mi.met (by omega)
  rw [mo.eq] at mo
  exact mo
theorem ren_okB {b : Book} (fb : FormB b) : OkB (rename b (ordB b)) :=
  (metO fb).toMet.okB fb.eight fun s hs => ⟨(fb.ok hs).few, (fb.ok hs).rise, (fb.ok hs).msg⟩
/-! ### the book by its own numbers -/
theorem ren_in {F G : List Nat} (nd : F.Nodup) (pre : G <+: F) {x : Nat} (hx : x ∈ F) : F.idxOf x ∈ List.range G.length ↔ x ∈ G := by
  obtain ⟨R, rfl⟩ := pre
  rw [List.mem_range]
  constructor
  · intro h
    by_cases hG : x ∈ G
    · exact hG
    · rw [List.idxOf_append, if_neg hG] at h
      omega
  · intro h
    rw [List.idxOf_append, if_pos h]
    exact List.idxOf_lt_length_of_mem h
theorem addS_ren {F : List Nat} (nd : F.Nodup) : ∀ (ms : State) (G : List Nat), addS G ms <+: F → (∀ p ∈ ms, p.2 ∈ F) → addS (List.range G.length) (ms.map fun p => (p.1, F.idxOf p.2)) = List.range (addS G ms).length
  | [], _, _, _ => rfl
  | p :: r, G, pre, hF => by
    have pre0 : addS (if p.2 ∈ G then G else G ++ [p.2]) r <+: F := pre
    have preG : G <+: F := (addS_pre (p :: r) G).trans pre
    have hp := hF p (List.mem_cons_self ..)
    have ih := addS_ren nd r (if p.2 ∈ G then G else G ++ [p.2]) pre0 fun q hq => hF q (List.mem_cons_of_mem _ hq)
    show addS (if F.idxOf p.2 ∈ List.range G.length then List.range G.length else List.range G.length ++ [F.idxOf p.2]) (r.map fun p => (p.1, F.idxOf p.2)) = List.range (addS (if p.2 ∈ G then G else G ++ [p.2]) r).length
    rw [← ih]
    by_cases h : p.2 ∈ G
    · rw [if_pos ((ren_in nd preG hp).mpr h), if_pos h]
    · rw [if_neg (fun z => h ((ren_in nd preG hp).mp z)), if_neg h]
      have pre1 : G ++ [p.2] <+: F := by
        rw [if_neg h] at pre0
        exact (addS_pre _ _).trans pre0
      obtain ⟨R, rfl⟩ := pre1
      have e : (G ++ [p.2] ++ R).idxOf p.2 = G.length := by
        rw [List.append_assoc, List.idxOf_append, if_neg h]
        simp
      rw [e, List.length_append, List.length_singleton, List.range_succ]
theorem stB_ren {b : Book} {F : List Nat} (m : MetO b F) (hm : ∀ s ∈ F, ∀ p ∈ mvs b s, p.2 ∈ F) : ∀ i, stB (rename b F) i = List.range (stB b i).length
  | 0 => rfl
  | i + 1 => by
    have ih := stB_ren m hm i
    have pre : stB b (i + 1) <+: F := by
      rw [m.eq]
      by_cases h : i + 1 ≤ b.length
      · obtain ⟨k, hk⟩ := Nat.le.dest h
        unfold ordB
        rw [← hk]
        exact stB_pre _ _
      · have hl : (ordB b).length ≤ b.length := by rw [← m.eq]; exact nodup_le m.nd m.lt
        obtain ⟨k, hk⟩ := Nat.le.dest (show b.length ≤ i + 1 by omega)
        have := stB_rest (b := b) (i := b.length) hl k
        rw [← hk, this]
        exact List.prefix_refl _
    have pre0 : stB b i <+: F := (stB_pre i 1).trans pre
    cases hs : (stB b i)[i]? with
    | none =>
      have hl := List.getElem?_eq_none_iff.mp hs
      have e1 := stB_rest (b := b) hl 1
      have e2 := stB_rest (b := rename b F) (i := i) (by rw [ih, List.length_range]; exact hl) 1
      rw [e1, e2, ih]
    | some s =>
      have hl := (List.getElem?_eq_some_iff.mp hs).1
      have hF : F[i]? = some s := by
        obtain ⟨R, rfl⟩ := pre0
        rw [List.getElem?_append_left hl]
        exact hs
      have hsF := List.mem_of_getElem? hF
      rw [stB_step hs] at pre ⊢
      have hr : (stB (rename b F) i)[i]? = some i := by rw [ih, List.getElem?_range hl]
      rw [stB_step hr, rename_at hF, ih]
      exact addS_ren m.nd _ _ pre fun p hp => hm s hsF p hp
theorem ren_self {b : Book} {F : List Nat} (m : MetO b F) : ordB (rename b F) = List.range F.length ∧ rename (rename b F) (List.range F.length) = rename b F := by
  have e : ordB (rename b F) = List.range F.length := by
    have h := stB_ren m m.cl
    have hl : F.length ≤ b.length := nodup_le m.nd m.lt
    have hF : stB b F.length = F := by
      have hpre : stB b F.length <+: F := by
        rw [m.eq]
        obtain ⟨k, hk⟩ := Nat.le.dest (show (ordB b).length ≤ b.length by rw [← m.eq]; exact hl)
        have := stB_pre (b := b) (ordB b).length k
        rw [hk] at this
        exact this
      -- at F.length all is met
      have : ∀ i, i ≤ F.length → i < (stB b i).length ∨ stB b i = F := by
        intro i hi
        by_cases hc : (stB b i).length ≤ i
        · refine .inr ?_
          rw [m.eq, stB_end hc (by omega)]
        · exact .inl (by omega)
      rcases this F.length (Nat.le_refl _) with h1 | h1
      · have := hpre.length_le
        omega
      · exact h1
    show stB (rename b F) (rename b F).length = _
    rw [rename_len, h, hF]
  refine ⟨e, ?_⟩
  refine List.ext_getElem? fun k => ?_
  unfold rename
  rw [List.getElem?_map]
  by_cases hk : k < F.length
  · rw [List.getElem?_range hk, List.getElem?_map, List.getElem?_eq_getElem hk]
    have hF : F[k]? = some F[k] := List.getElem?_eq_getElem hk
    show some ((mvs (rename b F) k).map fun p => (p.1, (List.range F.length).idxOf p.2)) = some ((mvs b F[k]).map fun p => (p.1, F.idxOf p.2))
    rw [rename_at hF, List.map_map]
    refine congrArg some (List.map_congr_left fun p hp => ?_)
    have hm := m.cl _ (List.getElem_mem hk) p hp
    have hlt := List.idxOf_lt_length_of_mem hm
    show (p.1, (List.range F.length).idxOf (F.idxOf p.2)) = (p.1, F.idxOf p.2)
    rw [idx_of List.nodup_range (List.getElem?_range hlt)]
  · rw [List.getElem?_eq_none (by rw [List.length_range]; omega), List.getElem?_map, List.getElem?_eq_none (by omega)]
    rfl
end Nv
set_option Elab.async false
set_option linter.all false
set_option maxRecDepth 100000
/-! a dict's comprehension over a walk; dicts from numbers to numbers -/
namespace Nv
open PySem PySem.Spec PyProof.Rows L2
theorem dc_it {J : It} {n : Nat} {G : Hp → Prop} {Y : Nat → Hp → V → Hp → Prop} (w : Walk J n G Y) {g : TG} {tt : TT} {tk tv : TE} {vs : List Nat} {σ : L2.St} {H1 : Hp} {D : Addr} {Qd : Hp → Prop} (Pv : Nat → Hp → Prop) (h0 : Pv 0 (upd H1 D (.dK []))) (hG : ∀ i H, i ≤ n → Pv i H → G H)
    (hs : ∀ i x H H', i < n → Pv i H → Y i H x H' → g x (wipe σ vs) H' fun σ2 H2 => wipe σ2 vs = wipe σ vs ∧ tt σ2 H2 fun b H3 =>
      if b = true then tk σ2 H3 fun y H4 => tv σ2 H4 fun z H5 => ∃ kvs k, y = kV k ∧ H5 D = some (.dK kvs) ∧ kvs.length < sizeLine ∧ Pv (i + 1) (upd H5 D (.dK (putK kvs k z))) else Pv (i + 1) H3) (hd : ∀ H, Pv n H → Qd H) :
    ∃ W : Nat → Nat → Hp → Prop, (∃ m, W 0 m (upd H1 D (.dK []))) ∧ ∀ i m H, W i m H →
      (J.stop i H ∧ Qd H) ∨ (J.go i H ∧ ∃ Nx : Hp → Prop, (∀ H', Nx H' → ∃ m', m' < m ∧ W (i + 1) m' H') ∧ ∀ x H', J.yld i H x H' → g x (wipe σ vs) H' fun σ2 H2 => wipe σ2 vs = wipe σ vs ∧ tt σ2 H2 fun b H3 =>
        if b = true then tk σ2 H3 fun y H4 => tv σ2 H4 fun z H5 => ∃ kvs k, y = kV k ∧ H5 D = some (.dK kvs) ∧ kvs.length < sizeLine ∧ Nx (upd H5 D (.dK (putK kvs k z))) else Nx H3) := by
  refine ⟨fun i m H => m = n - i ∧ i ≤ n ∧ Pv i H, ⟨n, by simp, Nat.zero_le _, h0⟩, ?_⟩
  rintro i m H ⟨rfl, hi, p⟩
  have q := hG i H hi p
  by_cases hlt : i < n
  · refine .inr ⟨w.goes i H hlt q, Pv (i + 1), fun H' p' => ⟨n - (i + 1), by omega, rfl, hlt, p'⟩, fun x H' y => hs i x H H' hlt p (w.yields i H x H' hlt q y)⟩
  · have e : i = n := by omega
    subst e
    exact .inl ⟨w.stops H q, hd H p⟩
/-- the dict that gives each state of F its place there -/
abbrev placesK (F : List Nat) : List (Key × V) := F.zipIdx.map fun p => (kN p.1, nV p.2)
theorem placesK_snoc {F : List Nat} {s : Nat} : placesK (F ++ [s]) = placesK F ++ [(kN s, nV F.length)] := by
  unfold placesK
  rw [List.zipIdx_append, List.map_append]
  simp
theorem placesK_keys {F : List Nat} : (placesK F).map (·.1) = F.map kN := by
  unfold placesK
  rw [List.map_map]
  have : (F.zipIdx.map ((fun x => x.1) ∘ fun p : Nat × Nat => (kN p.1, nV p.2))) = (F.zipIdx.map (·.1)).map kN := by rw [List.map_map]; rfl
  rw [this, List.zipIdx_map_fst]
theorem placesK_len {F : List Nat} : (placesK F).length = F.length := by simp [placesK]
theorem kN_inj {a b : Nat} (h : kN a = kN b) : a = b := by
  have := Sum.inl.inj h
  omega
/-- a new key goes to the end -/
theorem placesK_put {F : List Nat} {s : Nat} (h : s ∉ F) : putK (placesK F) (kN s) (nV F.length) = placesK (F ++ [s]) := by
  rw [placesK_snoc]
  have hf : valV (placesK F) (kN s) = none := by
    have := valV_key (placesK_keys (F := F)) s
    rw [decide_eq_false h] at this
    cases e : valV (placesK F) (kN s) with
    | none => rfl
    | some z => rw [e] at this; cases this
  exact putK_new _ hf
theorem placesK_val {F : List Nat} (nd : F.Nodup) {s : Nat} (h : s ∈ F) : valV (placesK F) (kN s) = some (nV (F.idxOf s)) := by
  have hs := valV_key (placesK_keys (F := F)) s
  rw [decide_eq_true h] at hs
  obtain ⟨v, hv⟩ := Option.isSome_iff_exists.mp hs
  have hm := valV_mem hv
  obtain ⟨p, hp, e⟩ := List.mem_map.mp hm
  have e1 : kN p.1 = kN s := congrArg Prod.fst e
  have e2 : nV p.2 = v := congrArg Prod.snd e
  have e3 := kN_inj e1
  obtain ⟨i, hi, hie⟩ := List.mem_iff_getElem.mp hp
  rw [List.getElem_zipIdx] at hie
  have hi' : i < F.length := by simpa using hi
  have a1 : F[i] = p.1 := congrArg Prod.fst hie
  have a2 : 0 + i = p.2 := congrArg Prod.snd hie
  have : F.idxOf s = i := by
    rw [← e3, ← a1]
    exact List.Nodup.idxOf_getElem nd i hi'
  rw [hv, ← e2, this, ← a2, Nat.zero_add]
end Nv
set_option Elab.async false
set_option linter.all false
set_option maxRecDepth 100000
namespace Nv
open PySem PySem.Spec PyProof.Rows L2
section
variable {P : Program} {w : World} {K : PySem.W.Frag} {mg : Str → Option Value} {base : Heap}
/-! ### what is heard: a tuple -/
theorem takes_lenT {X : Cx} {W : WX} {n : Nat} (tk : Takes X W) (hn : X.N.length = n) : Takes X fun cls d σ H => σ.length = n → W cls d σ H := by
  rintro u s' ⟨a, B, sI, pins, σ, H, cls, d, e, I, nb, up, sky, na, os, ag, w⟩
  exact tk u s' ⟨a, B, sI, pins, σ, H, cls, d, e, I, nb, up, sky, na, os, ag, w (by rw [I.len, hn])⟩
open LamX in
/-- call(), heard: its value, or its error by name and what -/
def THeardT {K : PySem.W.Frag} {mg : Str → Option Value} (T : Tx K mg) : (XK → Hp → VK → Prop) → Hp → VK → Prop := fun tl H Q =>
  tl (fun cls d H' => ∃ (nm : Str) (C dx : Addr) (v : V), cls = .ref C ∧ ((C = T.x_BadBook.C ∧ nm = "BadBook") ∨ (C = T.x_Stray.C ∧ nm = "Stray")) ∧ d = some dx ∧ XdAt H' dx v ∧ ∀ t, H' t = none → Q (.ref t) (upd H' t (.tup [.str nm, v, .bl true]))) H fun v H' => [V.str "told", v].length ≤ sizeLine ∧ ∀ t, H' t = none → Q (.ref t) (upd H' t (.tup [.str "told", v]))
theorem sc_law_heard : FnScope ["call", "error", "found"] ["call"] (defScope s_law_heard) := ⟨rfl, rfl, rfl, by decide +kernel, rfl, by decide +kernel, by decide +kernel⟩
open LamX in
theorem heard_givesT (T : Tx K mg) {X : Cx} {k : Nat} (hr : Room (k + 1) X.A) (eK : X.K = K) (em : X.mg = mg) {cdg : Value} {q : Str} : GivesTo X ["call", "error", "found"] "_law_heard" (defScope s_law_heard) T.law_heard.f cdg (defBody s_law_heard) "call" q (THeardT T) := by
  subst eK em
  intro f c' s H Q tl act hc h
  refine ⟨_, pss_cons (ps_try_all2 (X := (cxOf C8.CX0 X.prog X.w X.K X.mg X.base ["call", "error", "found"] "_law_heard" (defScope s_law_heard) T.law_heard.f cdg X.A X.stack s H C8.E0).nox) (n := "error") (i := 1) (Wout := fun _ _ _ _ => False)
    (tb := fun W D σ H => ∃ Ech : XK, (∀ cls d σ' H', Ech cls d H' → σ'.length = 3 → W cls d σ' H') ∧ σ[0]? = some (some (.ref f)) ∧ H c' = some (CodeO c' q) ∧ tl Ech H fun v H' => [V.str "told", v].length ≤ sizeLine ∧ ∀ t, H' t = none → D.rt (.ref t) (upd H' t (.tup [.str "told", v])))
    rfl rfl sc_law_heard.nd rfl rfl L2.takes0 (fun W pn xe tk _ => ?_) (.one (c := .ref T.x_BadBook.C) ⟨rfl, by decide, .inl T.x_BadBook.g⟩ (fun a oe cls d pn hz hf => pss_one (ps_set (i := 2) sc_law_heard.nd rfl (.inl rfl) (pe_tup (pa_cons pe_str (pa_cons (pe_what (X := (cxOf C8.CX0 X.prog X.w X.K X.mg X.base ["call", "error", "found"] "_law_heard" (defScope s_law_heard) T.law_heard.f cdg X.A X.stack s H C8.E0).nox) T.x_BadBook hz hf (pv 1)) (pa_cons (pe_and (pe_callB (call_isET (X := (cxOf C8.CX0 X.prog X.w X.K X.mg X.base ["call", "error", "found"] "_law_heard" (defScope s_law_heard) T.law_heard.f cdg X.A X.stack s H C8.E0).nox) hz) (by rfl) T.n_isinstance (by decide +kernel) (pa_cons (pv 1) (pa_cons (pe_glob (v := .ref T.r_Refused.C) (by rfl) T.r_Refused.g rfl) pa_nil))) (pe_one (pe_callB (call_isET (X := (cxOf C8.CX0 X.prog X.w X.K X.mg X.base ["call", "error", "found"] "_law_heard" (defScope s_law_heard) T.law_heard.f cdg X.A X.stack s H C8.E0).nox) hz) (by rfl) T.n_isinstance (by decide +kernel) (pa_cons (pv 1) (pa_cons (pe_bltn (v := .ty "ValueError") (by rfl) T.n_ValueError (by decide +kernel) rfl) pa_nil))))) pa_nil)))))) (.one (c := .ref T.x_Stray.C) ⟨rfl, by decide, .inl T.x_Stray.g⟩ (fun a oe cls d pn hz hf => pss_one (ps_set (i := 2) sc_law_heard.nd rfl (.inl rfl) (pe_tup (pa_cons pe_str (pa_cons (pe_what (X := (cxOf C8.CX0 X.prog X.w X.K X.mg X.base ["call", "error", "found"] "_law_heard" (defScope s_law_heard) T.law_heard.f cdg X.A X.stack s H C8.E0).nox) T.x_Stray hz hf (pv 1)) (pa_cons (pe_and (pe_callB (call_isET (X := (cxOf C8.CX0 X.prog X.w X.K X.mg X.base ["call", "error", "found"] "_law_heard" (defScope s_law_heard) T.law_heard.f cdg X.A X.stack s H C8.E0).nox) hz) (by rfl) T.n_isinstance (by decide +kernel) (pa_cons (pv 1) (pa_cons (pe_glob (v := .ref T.r_Refused.C) (by rfl) T.r_Refused.g rfl) pa_nil))) (pe_one (pe_callB (call_isET (X := (cxOf C8.CX0 X.prog X.w X.K X.mg X.base ["call", "error", "found"] "_law_heard" (defScope s_law_heard) T.law_heard.f cdg X.A X.stack s H C8.E0).nox) hz) (by rfl) T.n_isinstance (by decide +kernel) (pa_cons (pv 1) (pa_cons (pe_bltn (v := .ty "ValueError") (by rfl) T.n_ValueError (by decide +kernel) rfl) pa_nil))))) pa_nil)))))) (.bare (c := .ref T.r_Refused.C) ⟨rfl, by decide, .inl T.r_Refused.g⟩ (fun a oe cls d pn hz hf => pss_one (ps_set (i := 2) sc_law_heard.nd rfl (.inl rfl) (pe_tup (pa_cons pe_str (pa_cons pe_int (pa_cons pe_bl pa_nil)))))) .none)))) (pss_one (ps_ret (pv 2))), ?_⟩
  · refine ⟨fun pins s' σ H' D I h' => ?_⟩
    obtain ⟨Ech, hW, h1, h2, h3⟩ := h'
    refine (pss_one (ps_ret (pe_tup (pa_cons pe_str (pa_cons (act _ pn xe Ech _ _ (takes_lenT (n := 3) tk rfl) hW) pa_nil))))).run pins s' σ H' D I ⟨h1, h2, h3⟩
  · refine ⟨_, fun cls d σ' H' hE hl => ?_, rfl, hc, h⟩
    obtain ⟨nm, C, dx, v, rfl, hC, rfl, hd, hq⟩ := hE
    obtain ⟨y0, y1, y2, rfl⟩ : ∃ y0 y1 y2, σ' = [y0, y1, y2] := by
      match σ', hl with
      | [y0, y1, y2], _ => exact ⟨y0, y1, y2, rfl⟩
    rcases hC with ⟨rfl, rfl⟩ | ⟨rfl, rfl⟩
    · refine ⟨true, exm_is _ _ T.s_BadBook_BadBook, fun _ a na => ?_, fun z => by cases z⟩
      exact ⟨_, rfl, rfl, rfl, dx, v, rfl, hd, ⟨_, rfl, .ref T.r_Refused.C, .ref T.r_Refused.C, rfl, fun u hu => hu, T.r_Refused.kit T.q_BadBook, _, rfl, iteT ⟨_, rfl, .ty "ValueError", .type "ValueError", rfl, fun u hu => hu, kit_ve T.v_BadBook, ⟨(by show 3 ≤ sizeLine; decide), fun t ht => ⟨_, rfl, hq t ht⟩⟩⟩⟩⟩
    · refine ⟨false, exm_is _ _ T.s_Stray_BadBook, (fun z => by cases z), fun _ => ?_⟩
      refine ⟨true, exm_is _ _ T.s_Stray_Stray, fun _ a na => ?_, fun z => by cases z⟩
      exact ⟨_, rfl, rfl, rfl, dx, v, rfl, hd, ⟨_, rfl, .ref T.r_Refused.C, .ref T.r_Refused.C, rfl, fun u hu => hu, T.r_Refused.kit T.q_Stray, _, rfl, iteT ⟨_, rfl, .ty "ValueError", .type "ValueError", rfl, fun u hu => hu, kit_ve T.v_Stray, ⟨(by show 3 ≤ sizeLine; decide), fun t ht => ⟨_, rfl, hq t ht⟩⟩⟩⟩⟩
/-! ### a lambda handed to _law_heard -/
open LamX in
theorem pe_heardT {K : PySem.W.Frag} {mg : Str → Option Value} {X : Cx} {k : Nat} (T : Tx K mg) {c P : Addr} {params : Arguments} {body : Expr} {scope : Scope} {t : XK → TE} {p lpos pos : Pos} (eK : X.K = K) (em : X.mg = mg) (hg : Gl X "_law_heard") (TB : TabB X.base X.mg c P) {TT : List (Addr × Str)} (hT : (P, X.env.qual ++ "<lambda>") ∈ TT) (hN : ∀ p ∈ TT, p.1 = P → p.2 = X.env.qual ++ "<lambda>") (hcode : X.env.code = .ref c)
    (hr : Room (k + 2) X.A) (L : LamS X.env.scope scope) (hdef : defaultsOf params X.env = ([], [])) (hbind : ∀ (q : Str) (cl : List (Str × Addr)) (pm cv ctv : Value), bindArgs (PySem.W.kla_fn "<lambda>" q params body scope cl pm cv ctv) ⟨[], []⟩ = pure [])
    (hbody : ∀ (A : Around) (outer : List Env) (s : Shared) (H : Hp) (E : XK) (f c' : Addr), Room k (A.deeper (lamEnv X scope s.heap.objs.size f c')) → PE (lamCx X A outer s H E scope f c') body (t E)) :
    PE X (.Call (.Name "_law_heard" p) [.Lambda params body scope lpos] [] pos) (tLam TT (THeardT T) t) := by
  subst eK em
  obtain ⟨oc, od, kV, doc, pm, an, cdv, ct, osl, hfd, lk, cd⟩ := T.law_heard.F.ex
  rw [hfd] at lk
  have hb := T.law_heard.b
  rw [hfd] at hb
  exact pe_lamcall hg T.law_heard.g T.law_heard.F.kp lk cd hb sc_law_heard rfl (.inl rfl) (heard_givesT T (k := k + 1) hr rfl rfl) TB hcode hT hN hr L hdef hbind hbody
end
end Nv
set_option Elab.async false
set_option linter.all false
set_option maxRecDepth 100000
namespace Nv
open PySem PySem.Spec PyProof.Rows L2
section
variable {P : Program} {w : World} {K : PySem.W.Frag} {mg : Str → Option Value} {base : Heap}
/-! ### is it a book -/
theorem sc_is_book : FnScope ["thing"] ["thing"] (defScope s_is_book) := ⟨rfl, rfl, rfl, by decide +kernel, rfl, by decide +kernel, by decide +kernel⟩
def sp_is_book (K : PySem.W.Frag) : Sp := fun vs H Q _ => ∃ (v : V) (b : Book), vs = [v] ∧ BkV K H v b ∧ OkB b ∧ ∀ H', Ext [] H H' → Q (.bl true) H'
theorem ok_is_book (T : Tx K mg) : FnOk P w K mg base CX0 6 T.is_book.f T.is_book.fd ["thing"] (sp_is_book K) := by
  refine T.is_book.F.ok sc_is_book (fun vs H Q E h => ?_) (fun cdv A outer s H vs Q E hr h => ?_)
  · obtain ⟨v, b, rfl, _⟩ := h; rfl
  · obtain ⟨v, b, rfl, hb, ok, q⟩ := h
    refine ⟨_, pss_cons (ps_try_thru0 (pss_one (ps_expr (pe_call (ok_made_book T) (hr.mono (by decide)) (by rfl) T.made_book.g T.made_book.F.kp T.made_book.b .nil pass0 (pa_cons (pv 0) pa_nil))))) (pss_one (ps_ret pe_bl)), ?_⟩
    exact ⟨_, rfl, v, b, rfl, hb, ok, fun H' e => q H' e⟩
def sp_is_bookD (K : PySem.W.Frag) (CB CS : Addr) : Sp := fun vs H Q _ => ∃ (v : V) (d : PyData) (C : Addr) (e : Int), vs = [v] ∧ Dp K H v d ∧ Ref CB CS d C e ∧ ∀ H', Ext [] H H' → Q (.bl false) H'
theorem okD_is_book (T : Tx K mg) : FnOk P w K mg base CX0 6 T.is_book.f T.is_book.fd ["thing"] (sp_is_bookD K T.x_BadBook.C T.x_Stray.C) := by
  refine T.is_book.F.ok sc_is_book (fun vs H Q E h => ?_) (fun cdv A outer s H vs Q E hr h => ?_)
  · obtain ⟨v, d, C, e, rfl, _⟩ := h; rfl
  · obtain ⟨v, d, C, e, rfl, hd, href, q⟩ := h
    refine ⟨_, pss_cons (ps_try_only (c := .ref T.r_Refused.C) (Wout := fun _ _ _ _ => False) (tb := fun W D σ H => ∃ Ech : XK, (∀ cls d σ' H', Ech cls d H' → W cls d σ' H') ∧ σ[0]? = some (some v) ∧ ∃ (d : PyData) (C : Addr) (e : Int), Dp K H v d ∧ Ref T.x_BadBook.C T.x_Stray.C d C e ∧ Outs H Ech C e)
      rfl rfl ⟨rfl, by decide, .inl T.r_Refused.g⟩ L2.takes0 (fun W pn xe tk _ => ?_) (fun a oe cls d pn hz hf => pss_one (ps_ret pe_bl))) (pss_one (ps_ret pe_bl)), ?_⟩
    · refine ⟨fun pins s' σ H' D I h' => ?_⟩
      obtain ⟨Ech, hW, h1, d, C, e, h2, h3, h4⟩ := h'
      refine (pss_one (ps_expr (pe_call (E := Ech) (okX_made_book T) (hr.mono (by decide)) (by rfl) T.made_book.g T.made_book.F.kp T.made_book.b .nil (passes_call tk fun cls d σ H h => hW cls d σ H h) (pa_cons (pv 0) pa_nil)))).run pins s' σ H' D I ?_
      exact ⟨v, h1, v, d, C, e, rfl, h2, h3, h4⟩
    · refine ⟨fun cls d H' => (cls = .ref T.x_BadBook.C ∨ cls = .ref T.x_Stray.C) ∧ Ext [] H H', fun cls d σ' H' hE => ?_, rfl, d, C, e, hd, href, fun dx H' _ _ e => ⟨?_, e⟩⟩
      · obtain ⟨hc, e⟩ := hE
        rcases hc with rfl | rfl
        · exact ⟨true, T.r_Refused.exm T.q_BadBook, fun _ a na => q H' e, fun z => by cases z⟩
        · exact ⟨true, T.r_Refused.exm T.q_Stray, fun _ a na => q H' e, fun z => by cases z⟩
      · cases href with
        | form _ => exact .inl rfl
        | stray _ _ _ => exact .inr rfl
/-! ### states by meeting -/

def sp_first_rowsO (K : PySem.W.Frag) : Sp := fun vs H Q _ => ∃ (v : V) (b : Book), vs = [v, .int 0] ∧ BkW K H v b ∧ FormB b ∧ ∀ (F : List Nat) (kvs : List (Key × V)) (d : Addr) (H' : Hp), MetO b F → kvs.map (·.1) = F.map kN → H' d = some (.dK kvs) → Ext [] H H' → Q (.ref d) H'
theorem okO_first_rows (T : Tx K mg) : FnOk P w K mg base CX0 1 T.first_rows.f T.first_rows.fd ["states", "start"] (sp_first_rowsO K) := by
  refine T.first_rows.F.ok sc_first_rows (fun vs H Q E h => ?_) (fun cdv A outer s H vs Q E hr h => ?_)
  · obtain ⟨v, b, rfl, _⟩ := h; rfl
  · obtain ⟨v, b, rfl, ⟨a, ls, rfl, ha, hls⟩, ok, q⟩ := h
    have llen := Paired.len hls
    have h8 := ok.eight
    refine ⟨_, (pss_cons (ps_set (i := 2) sc_first_rows.nd rfl (.inl rfl) (pe_disp (pps_cons (pv 1) (pe_tup pa_nil) pps_nil) (by rfl) (by rfl) (fun z => by cases z) (by decide)))
      (pss_cons (ps_set (i := 3) sc_first_rows.nd rfl (.inl rfl) (pe_lst (pa_cons (pv 1) pa_nil)))
      (pss_cons (ps_set (i := 4) sc_first_rows.nd rfl (.inl rfl) pe_int)
      (pss_cons (ps_while PassesOwn.never (pt_cmpR op_lt (pv 4) (pe_callB call_len_seq (by rfl) T.n_len PySem.boot_len (pa_cons (pv 3) pa_nil)) (nomark _))
        (pss_cons (ps_set (i := 5) sc_first_rows.nd rfl (.inl rfl) (pe_ix ix_list (pv 3) (pv 4) (fun _ _ => rfl)))
        (pss_cons (ps_aug (i := 4) sc_first_rows.nd rfl (.inl rfl) pe_int ip_add)
        (pss_one (ps_for PassesOwn.never rfl (pi_tup (pe_ix ix_tup (pv 0) (pv 5) (fun _ _ => rfl))) (pg_tup rfl (pgs_cons (pg_name (i := 6) sc_first_rows.nd rfl (.inl rfl)) (pgs_cons (pg_name (i := 7) sc_first_rows.nd rfl (.inl rfl)) pgs_nil)))
          (pss_one (ps_if (pt_cmp (pc_dnotin (hu_of hr) (pv 7) (pv 2)))
            (pss_cons (ps_dput (hu_of hr) (pv 2) (pv 7) (pe_op op_catA (pe_dget (hu_of hr) (pv 2) (pv 5) (fun _ _ => rfl)) (pe_tup (pa_cons (pv 6) pa_nil))) rfl)
            (pss_one (ps_expr (pe_bm PySem.F.plainAttrs_list PySem.F.slot_list_append PySem.F.type_list_append mt_append (pv 3) (pa_cons (pv 7) pa_nil)))))
            pss_nil)))))))
      (pss_one (ps_ret (pv 2))))))), ?_⟩
    -- rows = {0: ()}
    refine fun d hd => ⟨_, rfl, Nat.zero_le _, fun t ht => ?_⟩
    have e1 : Ext [] H (upd H d (.dK [])) := .new hd
    have e2 := e1.trans (Ext.new (L := []) (o := .tup []) ht)
    have dt : d ≠ t := fun z => by rw [← z, upd_same] at ht; cases ht
    refine ⟨by rw [upd_ne dt, upd_same], [(kN 0, .ref t)], rfl, (by show 1 ≤ 15; decide), ?_⟩
    have e3 := e2.put (o := .dK (mergeK [] [(kN 0, .ref t)])) hd
    have hd3 : upd (upd (upd H d (.dK [])) t (.tup [])) d (.dK (mergeK [] [(kN 0, .ref t)])) d = some (.dK [(kN 0, .ref t)]) := upd_same
    have ht3 : upd (upd (upd H d (.dK [])) t (.tup [])) d (.dK (mergeK [] [(kN 0, .ref t)])) t = some (.tup []) := by rw [upd_ne dt.symm, upd_same]
    generalize upd (upd (upd H d (.dK [])) t (.tup [])) d (.dK (mergeK [] [(kN 0, .ref t)])) = H3 at *
    -- order = [0]
    refine ⟨_, rfl, (by show 1 ≤ sizeLine; decide), fun o ho => ?_⟩
    have ho0 : H o = none := e3.free ho
    have od : d ≠ o := ne_of_none hd3 ho
    have e4 := e3.put2 (o := .lst [.int 0]) ho
    -- the loop
    let Row : Hp → Nat → V → Prop := fun H' m v => ∃ (x : Addr) (xs : List V), v = .ref x ∧ SqT K H' x xs ∧ xs.length ≤ m
    refine ⟨fun m σ H' => ∃ (F : List Nat) (kvs : List (Key × V)) (i : Nat) (y4 y5 y6 : Option V), σ = [some (.ref a), some (.int 0), some (.ref d), some (.ref o), some (.int i), y4, y5, y6] ∧ MetIO b F i ∧ m = b.length - i ∧ H' o = some (.lst (F.map nV)) ∧ H' d = some (.dK kvs) ∧ kvs.map (·.1) = F.map kN ∧ (∀ e ∈ kvs, Row H' F.length e.2) ∧ Ext [] H H',
      ⟨_, [0], [(kN 0, .ref t)], 0, _, _, _, rfl, .first ok.one, rfl, upd_same, by rw [upd_ne od]; exact hd3, rfl, fun e he => ?_, e4⟩, ?_⟩
    · obtain rfl := List.mem_singleton.mp he
      have ot : t ≠ o := ne_of_none ht3 ho
      exact ⟨t, [], rfl, .of (by rw [upd_ne ot]; exact ht3), Nat.zero_le _⟩
    rintro m σ H' ⟨F, kvs, i, y4, y5, y6, rfl, mi, rfl, hF, hD, hk, hrow, e⟩
    have Fle : F.length ≤ b.length := nodup_le mi.nd mi.lt
    refine ⟨_, rfl, _, rfl, o, _, rfl, .inl (.of hF), _, _, rfl, rfl, _, rfl, ite2 (fun z => ?_) (fun z => ?_)⟩
    · have z := of_decide_eq_true z
      rw [List.length_map] at z
      have hiF : i < F.length := by omega
      have hs : F[i]? = some F[i] := List.getElem?_eq_getElem hiF
      generalize F[i] = x at hs
      have gx : (stB b i)[i]? = some x := by rw [← mi.eq]; exact hs
      have hx : x < b.length := mi.lt x (List.mem_of_getElem? hs)
      obtain ⟨u, hu, c, ps, rfl, hc, hps⟩ := Paired.get hls (mvs_lt hx)
      have plen := Paired.len hps
      refine ⟨fun σ H' => ∃ (F : List Nat) (kvs : List (Key × V)) (y4 y5 y6 : Option V), σ = [some (.ref a), some (.int 0), some (.ref d), some (.ref o), some (.int (i + 1 : Nat)), y4, y5, y6] ∧ MetIO b F (i + 1) ∧ H' o = some (.lst (F.map nV)) ∧ H' d = some (.dK kvs) ∧ kvs.map (·.1) = F.map kN ∧ (∀ e ∈ kvs, Row H' F.length e.2) ∧ Ext [] H H', ?_, ?_⟩
      · rintro σ' H' ⟨F, kvs, y4, y5, y6, rfl, mi, r⟩
        exact ⟨b.length - (i + 1), by omega, F, kvs, i + 1, _, _, _, rfl, mi, rfl, r⟩
      refine ⟨_, rfl, _, rfl, o, _, _, _, rfl, rfl, .of hF, atI_nat (at_map hs), ?_⟩
      refine ⟨_, rfl, _, _, rfl, rfl, ?_⟩
      refine ⟨_, rfl, _, rfl, a, _, _, _, rfl, rfl, e.tup Lsts.nil ha, atI_nat hu, c, rfl, ⟨_, (e.tup Lsts.nil hc)⟩, ?_⟩
      refine for_tup (K := K) (a := c) (xs := ps.map V.ref) (fun k σ H' => ∃ (F : List Nat) (kvs : List (Key × V)) (y5 y6 : Option V), σ = [some (.ref a), some (.int 0), some (.ref d), some (.ref o), some (.int ((i : Int) + 1)), some (nV x), y5, y6] ∧ MetWO b F i x k ∧ H' o = some (.lst (F.map nV)) ∧ H' d = some (.dK kvs) ∧ kvs.map (·.1) = F.map kN ∧ (∀ e ∈ kvs, Row H' F.length e.2) ∧ Ext [] H H')
        ⟨F, kvs, _, _, rfl, mi.begin hs, hF, hD, hk, hrow, e⟩ (fun k σ H' _ ⟨_, _, _, _, _, _, _, _, _, _, e⟩ => (e.tup Lsts.nil hc)) ?_ ?_
      · rintro k v σ H' hv ⟨F, kvs, y5, y6, rfl, mw, hF, hD, hk, hrow, e⟩
        obtain ⟨g, hg, rfl⟩ := map_at hv
        obtain ⟨p, hp, hcp⟩ := Paired.get' hps hg
        have hcp := hcp.ext0 e
        have Fle : F.length ≤ b.length := nodup_le mw.nd mw.lt
        have pb : p.2 < b.length := ok.to (List.mem_of_getElem? hp)
        refine ⟨g, _, rfl, hcp, rfl, _, _, rfl, _, _, rfl, rfl, ?_⟩
        refine ⟨_, rfl, _, rfl, d, _, rfl, DGet.k (k := kN p.2) hD, _, rfl, ?_⟩
        rw [valV_key hk]
        by_cases hin : p.2 ∈ F
        · rw [decide_eq_true hin]
          exact iteF ⟨F, kvs, _, _, rfl, mw.skip hp hin, hF, hD, hk, hrow, e⟩
        · rw [decide_eq_false hin]
          refine iteT ?_
          -- rows[state] + (message,)
          have xin : x ∈ F := List.mem_of_getElem? mw.here
          have hsome : (valV kvs (kN x)).isSome = true := by rw [valV_key hk]; exact decide_eq_true xin
          obtain ⟨rv, hrv⟩ := Option.isSome_iff_exists.mp hsome
          obtain ⟨r, rs, er, hr1, hr2⟩ := hrow _ (valV_mem hrv)
          have er : rv = .ref r := er
          subst er
          have newk : valV kvs (kN p.2) = none := by
            have := valV_key hk p.2
            rw [decide_eq_false hin] at this
            cases h : valV kvs (kN p.2) with
            | none => rfl
            | some z => rw [h] at this; cases this
          have klen : kvs.length = F.length := by have := congrArg List.length hk; simpa using this
          -- behind the new row: the dict, the list
          have fin : ∀ (nr : Addr) (ys : List V) (H4 : Hp), Ext [] H' H4 → SqT K H4 nr ys → ys.length ≤ F.length + 1 → ∃ H5, DPut H4 d (.int p.2) (.ref nr) H5 ∧
              ∃ q5 : H5 = upd H4 d (.dK (kvs ++ [(kN p.2, .ref nr)])), H5 o = some (.lst (F.map nV)) ∧ H5 d = some (.dK (kvs ++ [(kN p.2, .ref nr)])) ∧ (∀ e ∈ kvs ++ [(kN p.2, .ref nr)], Row H5 (F.length + 1) e.2) ∧ Ext [] H H5 := by
            intro nr ys H4 e4 hn hl
            have hD4 := e4.at hD (by simp)
            have hF4 := e4.at hF (by simp)
            refine ⟨_, DPut.k (k := kN p.2) hD4 (small1000 (by omega)), by rw [putK_new _ newk], ?_⟩
            rw [putK_new _ newk]
            have ee : Ext [d] H4 (upd H4 d (.dK (kvs ++ [(kN p.2, .ref nr)]))) := .wr (by simp)
            refine ⟨by rw [upd_ne od.symm]; exact hF4, upd_same, fun z hz => ?_, (e.trans e4).put hd⟩
            rcases List.mem_append.mp hz with hz | hz
            · obtain ⟨x, xs, h1, h2, h3⟩ := hrow z hz
              exact ⟨x, xs, h1, ee.tup (one_dk hD4) (e4.tup Lsts.nil h2), by omega⟩
            · obtain rfl := List.mem_singleton.mp hz
              exact ⟨nr, ys, rfl, ee.tup (one_dk hD4) hn, hl⟩
          have last : ∀ (nr : Addr) (H5 : Hp), H5 o = some (.lst (F.map nV)) → H5 d = some (.dK (kvs ++ [(kN p.2, .ref nr)])) → (∀ e ∈ kvs ++ [(kN p.2, .ref nr)], Row H5 (F.length + 1) e.2) → Ext [] H H5 →
              ∃ (F' : List Nat) (kvs' : List (Key × V)) (y5 y6 : Option V), [some (.ref a), some (.int 0), some (.ref d), some (.ref o), some (.int ((i : Int) + 1)), some (nV x), some (.int p.1), some (.int p.2)] = [some (.ref a), some (.int 0), some (.ref d), some (.ref o), some (.int ((i : Int) + 1)), some (nV x), y5, y6] ∧
                MetWO b F' i x (k + 1) ∧ upd H5 o (.lst (F.map nV ++ [.int p.2])) o = some (.lst (F'.map nV)) ∧ upd H5 o (.lst (F.map nV ++ [.int p.2])) d = some (.dK kvs') ∧ kvs'.map (·.1) = F'.map kN ∧ (∀ e ∈ kvs', Row (upd H5 o (.lst (F.map nV ++ [.int p.2]))) F'.length e.2) ∧ Ext [] H (upd H5 o (.lst (F.map nV ++ [.int p.2]))) := by
            intro nr H5 h1 h2 h3 h4
            refine ⟨F ++ [p.2], kvs ++ [(kN p.2, .ref nr)], _, _, rfl, mw.push hp hin pb, by rw [upd_same, List.map_append]; rfl, by rw [upd_ne od]; exact h2, by rw [List.map_append, List.map_append, hk]; rfl, fun z hz => ?_, h4.put ho0⟩
            obtain ⟨x, xs, g1, g2, g3⟩ := h3 z hz
            exact ⟨x, xs, g1, Ext.tup (L := [o]) (.wr (by simp)) (one_lst h1) g2, by rw [List.length_append]; exact g3⟩
          refine ⟨_, rfl, _, rfl, d, _, rfl, by rw [← hrv]; exact DGet.k (k := kN x) hD, _, rfl, (by show 1 ≤ sizeLine; decide), fun g2 hg2 => ?_⟩
          have e5 : Ext [] H' (upd H' g2 (.tup [.int p.1])) := .new hg2
          refine ⟨r, g2, rs, _, rfl, rfl, e5.tup Lsts.nil hr1, .of upd_same, ?_, fun h0 => ?_, fun _ h0 => (by cases h0), fun _ _ g3 hg3 => ?_⟩
          · show rs.length + 1 ≤ sizeLine
            exact Nat.le_of_lt (small1000 (by omega))
          · obtain ⟨H5, dp, _, f1, f2, f3, f4⟩ := fin g2 [.int p.1] _ e5 (.of upd_same) (by simp)
            refine ⟨_, rfl, _, rfl, d, H5, rfl, dp, ?_⟩
            exact ⟨_, rfl, .inl ⟨rfl, _, .of f1⟩, _, rfl, o, _, _, rfl, rfl, f1, by rw [List.length_map]; exact small1000 (by omega), last g2 H5 f1 f2 f3 f4⟩
          · obtain ⟨H5, dp, _, f1, f2, f3, f4⟩ := fin g3 (rs ++ [.int p.1]) _ (e5.put2 hg3) (.of upd_same) (by rw [List.length_append]; show rs.length + 1 ≤ _; omega)
            refine ⟨_, rfl, _, rfl, d, H5, rfl, dp, ?_⟩
            exact ⟨_, rfl, .inl ⟨rfl, _, .of f1⟩, _, rfl, o, _, _, rfl, rfl, f1, by rw [List.length_map]; exact small1000 (by omega), last g3 H5 f1 f2 f3 f4⟩
      · rintro σ H' ⟨F, kvs, y5, y6, rfl, mw, hF, hD, hk, hrow, e⟩
        exact ⟨F, kvs, _, _, _, by rw [Int.natCast_add]; rfl, mw.done gx (by rw [List.length_map, plen]; exact Nat.le_refl _), hF, hD, hk, hrow, e⟩
    · have z : ¬ ((i : Int) < ((F.map nV).length : Int)) := fun y => z (decide_eq_true y)
      rw [List.length_map] at z
      have := mi.le
      exact ⟨_, rfl, q F kvs d H' (mi.met (by omega)) hk hD e⟩

theorem sc_by_meeting : FnScope ["states", "order", "number", "k", "state", "message", "to"] ["states"] (defScope s_by_meeting) := ⟨rfl, rfl, rfl, by decide +kernel, rfl, by decide +kernel, by decide +kernel⟩
def sp_by_meeting (K : PySem.W.Frag) : Sp := fun vs H Q _ => ∃ (v : V) (b : Book), vs = [v] ∧ BkW K H v b ∧ FormB b ∧ ∀ (v' : V) (H' : Hp), BkV K H' v' (rename b (ordB b)) → Ext [] H H' → Q v' H'
theorem ok_by_meeting (T : Tx K mg) : FnOk P w K mg base CX0 3 T.by_meeting.f T.by_meeting.fd ["states"] (sp_by_meeting K) := by
  refine T.by_meeting.F.ok sc_by_meeting (fun vs H Q E h => ?_) (fun cdv A outer s H vs Q E hr h => ?_)
  · obtain ⟨v, b, rfl, _⟩ := h; rfl
  · obtain ⟨v, b, rfl, hw, fb, q⟩ := h
    obtain ⟨m, ls, rfl, hm, hls⟩ := id hw
    have h8 := fb.eight
    refine ⟨_, (pss_cons (ps_set (i := 1) sc_by_meeting.nd rfl (.inl rfl) (pe_callTy (call_list_dK rfl) (by rfl) T.n_list (by decide +kernel) (pa_cons (pe_call (okO_first_rows T) (hr.mono (by decide)) (by rfl) T.first_rows.g T.first_rows.F.kp T.first_rows.bD.choose_spec.2 T.first_rows.bD.choose_spec.1 pass0 (pa_cons (pv 0) pa_nil)) pa_nil)))
      (pss_cons (ps_set (i := 2) sc_by_meeting.nd rfl (.inr rfl) (pe_dc (own := [("k", 3), ("state", 4)]) rfl sc_by_meeting.nd (pi_enum (by rfl) T.n_enumerate (pa_cons (pv 1) pa_nil)) (blkOk_by (own := [("k", 3), ("state", 4)]) (N := ["states", "order", "number", "k", "state", "message", "to"]) (sc := defScope s_by_meeting) (by decide +kernel)) (fun _ _ _ _ _ => (pg_tupK (n := 2) K rfl (pgs_cons (pg_name (i := 3) sc_by_meeting.nd rfl (.inl rfl)) (pgs_cons (pg_name (i := 4) sc_by_meeting.nd rfl (.inl rfl)) pgs_nil)))) (fun _ _ _ _ _ => pts_nil) (fun _ _ _ _ _ => (pv 4)) (fun _ _ _ _ _ => (pv 3))))
      (pss_one (ps_ret (pe_callTy call_tupZ (by rfl) T.n_tuple (by decide +kernel) (pa_cons (pe_lc (own := [("state", 4)]) rfl sc_by_meeting.nd (pi_list (pv 1)) (blkOk_by (own := [("state", 4)]) (N := ["states", "order", "number", "k", "state", "message", "to"]) (sc := defScope s_by_meeting) (by decide +kernel)) (fun _ _ _ _ _ => (pg_name (i := 4) sc_by_meeting.nd rfl (.inl rfl))) (fun _ _ _ _ _ => pts_nil) (fun _ _ _ _ _ => (pe_callTy (call_tupZK K) (by rfl) T.n_tuple (by decide +kernel) (pa_cons (pe_lc (own := [("message", 5), ("to", 6)]) rfl sc_by_meeting.nd (pi_tupK K (pe_ix (ix_tupK K) (pv 0) (pv 4) (fun _ _ => rfl))) (blkOk_by (own := [("message", 5), ("to", 6)]) (by kernel_rfl)) (fun _ _ _ _ _ => (pg_tupK (n := 2) K rfl (pgs_cons (pg_name (i := 5) sc_by_meeting.nd rfl (.inl rfl)) (pgs_cons (pg_name (i := 6) sc_by_meeting.nd rfl (.inl rfl)) pgs_nil)))) (fun _ _ _ _ _ => pts_nil) (fun _ _ _ _ _ => (pe_tup (pa_cons (pv 5) (pa_cons (pe_dget (hu_of hr) (pv 2) (pv 6) (fun _ _ => rfl)) pa_nil))))) pa_nil)))) pa_nil)))))), ?_⟩
    refine ⟨_, rfl, _, b, rfl, hw, fb, fun F kvs d H1 mo hk hd e1 => ⟨d, kvs, rfl, hd, fun f hf => ?_⟩⟩
    have eF : (kvs.map fun kv => kV kv.1) = F.map nV := by
      have : (kvs.map fun kv => kV kv.1) = (kvs.map (·.1)).map kV := by rw [List.map_map]; rfl
      rw [this, hk, List.map_map]
      rfl
    rw [eF]
    have ef : Ext [] H1 (upd H1 f (.lst (F.map nV))) := .new hf
    have hF2 : upd H1 f (.lst (F.map nV)) f = some (.lst (F.map nV)) := upd_same
    have e2 := e1.trans ef
    clear hf ef
    generalize upd H1 f (.lst (F.map nV)) = H2 at *
    have hl8 : F.length ≤ 8 := Nat.le_trans (nodup_le mo.nd mo.lt) h8
    -- number = {state: k ..}
    refine ⟨_, rfl, f, _, rfl, .of hF2, fun N hN => ?_⟩
    refine dc_it (walk_enum (K := K) (a := f) (xs := F.map nV)) (fun i H' => H' N = some (.dK (placesK (F.take i))) ∧ Ext [] H2 H') ⟨by simp [placesK]; exact upd_same, .new hN⟩ (fun i H' _ ⟨_, e⟩ => .of (e.at hF2 (by simp))) ?_ ?_
    · rintro i v H3 H' hi ⟨hX, e⟩ ⟨t, x, y, rfl, nt, rfl, hx, hy⟩
      cases hx
      obtain ⟨s, hs, rfl⟩ := map_at (show (F.map nV)[i]? = some y from hy)
      have e3 := e.put2 (o := .tup [.int i, nV s]) nt
      have hX3 : upd H3 t (.tup [.int i, nV s]) N = _ := (upd_ne (ne_of_none hX nt)).trans hX
      have hiF : i < F.length := (List.getElem?_eq_some_iff.mp hs).1
      refine ⟨t, _, rfl, .of upd_same, rfl, _, _, rfl, _, _, rfl, rfl, rfl, yes ?_⟩
      refine ⟨_, rfl, _, rfl, placesK (F.take i), kN s, rfl, hX3, ?_, ?_, e3.put hN⟩
      · rw [placesK_len, List.length_take]
        exact small1000 (by omega)
      · have hnew : s ∉ F.take i := fun z => by
          obtain ⟨j, hj, ej⟩ := List.mem_iff_getElem.mp z
          rw [List.getElem_take] at ej
          rw [List.length_take] at hj
          have a1 := idx_of mo.nd hs
          have a2 := idx_of mo.nd (j := j) (s := s) (by rw [List.getElem?_eq_getElem (by omega), ej])
          omega
        have hp := placesK_put hnew
        rw [List.length_take, Nat.min_eq_left (Nat.le_of_lt hiF)] at hp
        rw [upd_same, List.take_add_one, hs]
        exact congrArg (fun z => some (HO.dK z)) hp
    · rintro H3 ⟨hN3, e3⟩
      rw [List.length_map, List.take_length] at hN3
      have hF3 := e3.at hF2 (by simp)
      have f3 := e2.trans e3
      have hw3 := hw.ext0 f3
      clear hN
      -- the new book
      refine ⟨_, rfl, f, rfl, ⟨_, .of hF3⟩, fun D hD => ?_⟩
      have fD : f ≠ D := ne_of_none hF3 hD
      have ND : N ≠ D := ne_of_none hN3 hD
      have hDH : H D = none := f3.free hD
      refine lc_list (K := K) (a := f) (xs := F.map nV) (fun i H' => ∃ vs : List V, H' D = some (.lst vs) ∧ Paired (StV K H') vs ((rename b F).take i) ∧ Ext [] H H' ∧ H' f = some (.lst (F.map nV)) ∧ H' N = some (.dK (placesK F))) ⟨[], upd_same, .nil, f3.put2 hD, by rw [upd_ne fD]; exact hF3, by rw [upd_ne ND]; exact hN3⟩ (fun i H' _ ⟨_, _, _, _, h, _⟩ => .of h) ?_ ?_
      · rintro i v H' hv ⟨vs, hDv, hpd, e, hF', hN'⟩
        obtain ⟨x, hx, rfl⟩ := map_at hv
        have hxb : x < b.length := mo.lt x (List.mem_of_getElem? hx)
        obtain ⟨u, hu, a, ps, rfl, ha, hps⟩ := Paired.get hls (mvs_lt hxb)
        have plen : ps.length = (mvs b x).length := Paired.len hps
        have five := (fb.ok hxb).few
        refine ⟨rfl, yes ?_⟩
        refine ⟨_, rfl, _, rfl, m, _, _, _, rfl, rfl, e.tup Lsts.nil hm, atI_nat hu, a, rfl, ⟨_, e.tup Lsts.nil ha⟩, fun D2 hD2 => ?_⟩
        have hD2H : H D2 = none := e.free hD2
        have n1 : D ≠ D2 := ne_of_none hDv hD2
        have n2 : f ≠ D2 := ne_of_none hF' hD2
        refine lc_tup (K := K) (a := a) (xs := ps.map V.ref) (fun k H2 => ∃ qs : List Addr, H2 D2 = some (.lst (qs.map V.ref)) ∧ Paired (MvV K H2) qs (((mvs b x).take k).map fun p => (p.1, F.idxOf p.2)) ∧ Ext [] H' H2) ⟨[], upd_same, .nil, .new hD2⟩ (fun k H2 _ ⟨_, _, _, e2⟩ => (e.trans e2).tup Lsts.nil ha) ?_ ?_
        · rintro k v H2 hv ⟨qs, hq, hqp, e2⟩
          obtain ⟨c, hc, rfl⟩ := map_at hv
          obtain ⟨p, hp, hcp⟩ := Paired.get' hps hc
          have hcp := hcp.ext0 (e.trans e2)
          have hN2 := e2.at hN' (by simp)
          have pin : p.2 ∈ F := mo.cl x (List.mem_of_getElem? hx) p (List.mem_of_getElem? hp)
          refine ⟨c, _, rfl, hcp, rfl, _, _, rfl, _, _, rfl, rfl, rfl, yes ?_⟩
          refine ⟨_, rfl, _, rfl, _, rfl, N, nV (F.idxOf p.2), rfl, by rw [← placesK_val mo.nd pin]; exact DGet.k (k := kN p.2) hN2, ?_⟩
          refine ⟨(by show 2 ≤ sizeLine; decide), fun t ht => ?_⟩
          have tD2 : D2 ≠ t := ne_of_none hq ht
          have e3 : Ext [] H2 (upd H2 t (.tup [.int p.1, .int (F.idxOf p.2 : Nat)])) := .new ht
          refine ⟨_, e3.at hq (by simp), ?_, qs ++ [t], by rw [upd_same, List.map_append]; rfl, ?_, (e2.trans e3).put hD2⟩
          · rw [List.length_map, Paired.len hqp, List.length_map, List.length_take]
            exact small1000 (by omega)
          · rw [List.take_add_one, hp, List.map_append]
            refine Paired.snoc ?_ (Paired.imp hqp fun _ _ z => (z.ext0 e3).put (e3.at hq (by simp)))
            exact MvV.put (m := (p.1, F.idxOf p.2)) (.of upd_same) (e3.at hq (by simp))
        · rintro H2 ⟨qs, hq, hqp, e2⟩
          have ek : (mvs b x).take (ps.map V.ref).length = mvs b x := List.take_of_length_le (by rw [List.length_map, plen]; exact Nat.le_refl _)
          rw [ek] at hqp
          refine ⟨D2, _, rfl, .of hq, fun t H3 ht hH3 => ?_⟩
          obtain ⟨o, od, rfl⟩ := hH3
          have e3 : Ext [] H2 (upd H2 t (.frz o (.tup (qs.map V.ref)))) := .new ht
          have e4 := e2.trans e3
          refine ⟨vs, e4.at hDv (by simp), ?_, vs ++ [.ref t], upd_same, ?_, (e.trans e4).put hDH, by rw [upd_ne fD]; exact e4.at hF' (by simp), by rw [upd_ne ND]; exact e4.at hN' (by simp)⟩
          · rw [Paired.len hpd, List.length_take]
            exact small1000 (by rw [rename_len]; omega)
          · have hr' : (rename b F)[i]? = some ((mvs b x).map fun p => (p.1, F.idxOf p.2)) := by
              unfold rename
              rw [List.getElem?_map, hx]
              rfl
            rw [List.take_add_one, hr']
            have hDe := e4.at hDv (by simp)
            refine Paired.snoc ?_ (Paired.imp hpd fun _ _ z => (z.ext0 e4).put hDe)
            exact StV.put ⟨t, qs, rfl, ⟨o, upd_same, od⟩, Paired.imp hqp fun _ _ z => z.ext0 e3⟩ hDe
      · rintro H' ⟨vs, hDv, hpd, e, hF', _⟩
        refine ⟨D, vs, rfl, .of hDv, fun t H3 ht hH3 => ?_⟩
        obtain ⟨o, od, rfl⟩ := hH3
        have e3 : Ext [] H' (upd H' t (.frz o (.tup vs))) := .new ht
        have ek : (rename b F).take (F.map nV).length = rename b F := List.take_of_length_le (by rw [List.length_map, rename_len]; exact Nat.le_refl _)
        rw [ek, mo.eq] at hpd
        exact q _ _ ⟨t, vs, rfl, .inl (.inr ⟨o, upd_same⟩), Paired.imp hpd fun _ _ z => z.ext0 e3⟩ (e.trans e3)
theorem FnOk.calmT {P : Program} {w : World} {K : PySem.W.Frag} {mg : Str → Option Value} {base : Heap} {k : Nat} {f : Addr} {fd : FuncData} {ps : List Str} {sp : Sp} (F : FnOk P w K mg base (L2.CX P w) k f fd ps sp) : FnOk P w K mg base CX0 k f fd ps (fun vs H Q _ => sp vs H Q fun _ _ _ => False) :=
  ⟨fun vs H Q E h => F.len vs H Q _ h, fun A outer s H args us vs Q E a b c d h => codeAny_mono (F.run A outer s H args us vs Q _ a b c d h) fun r s' z => by
    cases r with
    | error e =>
      obtain ⟨_, _, _, _, _, _, _, _, _, _, _, _, x⟩ := z
      exact x.elim
    | ok fl => cases fl <;> exact z⟩
theorem dp_stsB {K : PySem.W.Frag} {H : Hp} : ∀ {vs : List V} {b : Book}, Paired (StW K H) vs b → DpAll K H vs (b.map stD)
  | _, _, .nil => .nil
  | _, _, .cons r t => by
    obtain ⟨c, ps, rfl, h1, h2⟩ := r
    exact .cons (.tup h1 (dp_mvs h2)) (dp_stsB t)
theorem BkW.dp {K : PySem.W.Frag} {H : Hp} {v : V} {b : Book} (h : BkW K H v b) : Dp K H v (bookD b) := by
  obtain ⟨a, vs, rfl, h1, h2⟩ := h
  exact .tup h1 (dp_stsB h2)

theorem okC_check_form (T : Tx K mg) : FnOk P w K mg base CX0 4 T.check_form.f T.check_form.fd ["thing"] (fun vs H Q _ => sp_check_formX K T.x_BadBook.C vs H Q fun _ _ _ => False) := FnOk.calmT (okX_check_form T)
theorem sc_trimmed : FnScope ["thing"] ["thing"] (defScope s_trimmed) := ⟨rfl, rfl, rfl, by decide +kernel, rfl, by decide +kernel, by decide +kernel⟩
def sp_trimmed (K : PySem.W.Frag) : Sp := sp_by_meeting K
theorem ok_trimmed (T : Tx K mg) : FnOk P w K mg base CX0 5 T.trimmed.f T.trimmed.fd ["thing"] (sp_trimmed K) := by
  refine T.trimmed.F.ok sc_trimmed (fun vs H Q E h => ?_) (fun cdv A outer s H vs Q E hr h => ?_)
  · obtain ⟨v, b, rfl, _⟩ := h; rfl
  · obtain ⟨v, b, rfl, hw, fb, q⟩ := h
    refine ⟨_, (pss_cons (ps_expr (pe_call (okC_check_form T) (hr.mono (by decide)) (by rfl) T.check_form.g T.check_form.F.kp T.check_form.b .nil pass0 (pa_cons (pv 0) pa_nil)))
      (pss_one (ps_ret (pe_call (ok_by_meeting T) (hr.mono (by decide)) (by rfl) T.by_meeting.g T.by_meeting.F.kp T.by_meeting.b .nil pass0 (pa_cons (pv 0) pa_nil))))), ?_⟩
    exact ⟨_, rfl, v, bookD b, rfl, hw.dp, fun _ => ⟨_, rfl, v, b, rfl, hw, fb, q⟩, fun e he => (by rw [form_none fb] at he; cases he)⟩
def sp_trimmedX (K : PySem.W.Frag) (CB : Addr) : Sp := fun vs H _ E => ∃ (v : V) (d : PyData) (e : Int), vs = [v] ∧ Dp K H v d ∧ formErr d = some e ∧ Outs H E CB e
theorem okX_trimmed (T : Tx K mg) : FnOk P w K mg base (L2.CX P w) 5 T.trimmed.f T.trimmed.fd ["thing"] (sp_trimmedX K T.x_BadBook.C) := by
  refine T.trimmed.F.okX sc_trimmed (fun vs H Q E h => ?_) (fun cdv A outer s H vs Q E hr h => ?_)
  · obtain ⟨v, d, e, rfl, _⟩ := h; rfl
  · obtain ⟨v, d, e, rfl, hd, he, q⟩ := h
    refine ⟨_, (pss_cons (ps_expr (pe_call (okX_check_form T) (hr.mono (by decide)) (by rfl) T.check_form.g T.check_form.F.kp T.check_form.b .nil (passes_call (takes_of rfl rfl rfl rfl) (fun _ _ _ _ h => h)) (pa_cons (pv 0) pa_nil)))
      (PSs.nox (pss_one (ps_ret (pe_call (ok_by_meeting T) (hr.mono (by decide)) (by rfl) T.by_meeting.g T.by_meeting.F.kp T.by_meeting.b .nil pass0 (pa_cons (pv 0) pa_nil)))))), ?_⟩
    exact ⟨_, rfl, v, d, rfl, hd, fun h => (by rw [he] at h; cases h), fun e2 he2 dx nd => (by rw [he] at he2; cases he2; exact q dx _ nd ⟨_, upd_same⟩ (.new nd))⟩
end
end Nv
set_option Elab.async false
set_option linter.all false
set_option maxRecDepth 100000
namespace Nv
open PySem PySem.Spec PyProof.Rows L2
section
variable {P : Program} {w : World} {K : PySem.W.Frag} {mg : Str → Option Value} {base : Heap}
/-! ### a turned row of numbers, a pick of a tuple -/
theorem sc_law_turned : FnScope ["pool", "many", "left", "found", "turn"] ["pool", "many"] (defScope s_law_turned) := ⟨rfl, rfl, rfl, by decide +kernel, rfl, by decide +kernel, by decide +kernel⟩
def sp_law_turned : Sp := fun vs H Q _ => ∃ (p l : Addr) (n : Nat), vs = [.ref p, .int n] ∧ PoolAt H p l ∧ n ≤ 8 ∧ ∀ (ms : List Nat) (t : Addr) (H' : Hp), ms.Perm (List.range n) → H' t = some (.lst (ms.map nV)) → H t = none → PoolAt H' p l → Ext [p, l] H H' → Q (.ref t) H'
theorem ok_law_turned (T : Tx K mg) : FnOk P w K mg base CX0 2 T.law_turned.f T.law_turned.fd ["pool", "many"] sp_law_turned := by
  refine T.law_turned.F.ok sc_law_turned (fun vs H Q E h => ?_) (fun cdv A outer s H vs Q E hr h => ?_)
  · obtain ⟨p, l, n, rfl, _⟩ := h; rfl
  · obtain ⟨p, l, top, rfl, P2, h8, q⟩ := h
    refine ⟨_, (pss_cons (ps_par (i := 2) (j := 3) (by rfl) sc_law_turned.nd rfl rfl (by decide) rfl rfl (pa_cons (pe_listRg rfl (by rfl) T.n_list (prg_1 (by rfl) T.n_range (pv 1))) (pa_cons (pe_lst pa_nil) pa_nil)) (by rfl))
      (pss_cons (ps_for PassesOwn.never rfl (pi_range1 (by rfl) T.n_range (pa_cons (pv 1) pa_nil)) (pg_name (i := 4) sc_law_turned.nd rfl (.inl rfl))
        (pss_one (ps_expr (pe_bm PySem.F.plainAttrs_list PySem.F.slot_list_append PySem.F.type_list_append mt_append (pv 3) (pa_cons (pe_bm PySem.F.plainAttrs_list PySem.F.slot_list_pop PySem.F.type_list_pop mt_popAt (pv 2) (pa_cons (pe_call (ok_law_draw T) (hr.mono (by decide)) (by rfl) T.law_draw.g T.law_draw.F.kp T.law_draw.b .nil pass0 (pa_cons (pv 0) (pa_cons (pe_callB call_len_seq (by rfl) T.n_len PySem.boot_len (pa_cons (pv 2) pa_nil)) pa_nil))) pa_nil)) pa_nil)))))
      (pss_one (ps_ret (pv 3))))), ?_⟩
    refine ⟨_, rfl, _, rfl, RgOk.of_le (by omega) (by omega) (by omega) (by omega), fun lf hlf => ⟨Nat.zero_le _, fun fd hfd => ⟨_, _, rfl, ?_⟩⟩⟩
    rw [rgV_nV] at hfd ⊢
    have e3 : Ext [] H (upd H lf (.lst ((List.range top).map nV))) := .new hlf
    have e4 := e3.trans (Ext.new (L := []) (o := .lst []) hfd)
    have nlf : fd ≠ lf := fun z => by rw [z, upd_same] at hfd; cases hfd
    obtain ⟨n1, n2⟩ := P2.off hlf
    have hfd2 := e3.free hfd
    obtain ⟨n3, n4⟩ := P2.off hfd2
    refine ⟨_, rfl, _, rfl, by omega, by omega, for_range (lo := 0) (n := _) (fun i σ H' => ∃ (L F : List Nat) (y : Option V), σ = [some (.ref p), some (.int top), some (.ref lf), some (.ref fd), y] ∧ H' lf = some (.lst (L.map nV)) ∧ H' fd = some (.lst (F.map nV)) ∧ (F ++ L).Perm (List.range top) ∧ F.length = i ∧ PoolAt H' p l ∧ Ext [p, l] H H')
      ⟨List.range top, [], _, rfl, by rw [upd_ne nlf.symm, upd_same], upd_same, .refl _, rfl, P2.ext0 e4, e4.weak⟩ ?_ ?_⟩
    · rintro i σ H' hi ⟨L, F, y, rfl, hL, hF, hperm, hFl, P', e'⟩
      have hi : i < top := by have : ((top : Int)).toNat = top := Int.toNat_natCast _; omega
      have tot : F.length + L.length = top := by have := hperm.length_eq; simpa using this
      have Lpos : 0 < L.length := by omega
      refine ⟨_, rfl, .inl ⟨rfl, _, .of hF⟩, _, rfl, .inl ⟨rfl, _, .of hL⟩, _, rfl, _, rfl, lf, _, rfl, .inl (.of hL), p, l, _, rfl, P', by rw [List.length_map]; omega, by rw [List.length_map]; omega, fun k H3 k0 k1 P3 e3' => ?_⟩
      rw [List.length_map] at k1
      obtain ⟨k, rfl⟩ : ∃ j : Nat, k = (j : Int) := ⟨k.toNat, by omega⟩
      have hk : k < L.length := by omega
      have hL3 := e3' _ _ (off2 n1 n2) hL
      have hF3 := e3' _ _ (off2 n3 n4) hF
      have hy : L[k]? = some L[k] := List.getElem?_eq_getElem hk
      generalize L[k] = y at hy
      refine ⟨lf, _, _, k, nV y, rfl, rfl, hL3, by omega, by omega, by rw [List.length_map]; exact seqAt hk, at_map hy, ?_⟩
      have el : (L.map nV).eraseIdx k = (L.eraseIdx k).map nV := eraseIdx_nV nV L k
      rw [el]
      have hF4 : upd H3 lf (.lst ((L.eraseIdx k).map nV)) fd = some (.lst (F.map nV)) := by rw [upd_ne nlf]; exact hF3
      refine ⟨fd, _, _, rfl, rfl, hF4, by rw [List.length_map]; exact small1000 (by omega), L.eraseIdx k, F ++ [y], _, rfl, by rw [upd_ne nlf.symm, upd_same], ?_, ?_, ?_, ?_, ?_⟩
      · rw [upd_same, List.map_append]; rfl
      · rw [List.append_assoc]
        exact (List.Perm.append_left F (erase_perm L k y hy)).trans hperm
      · rw [List.length_append, hFl]; rfl
      · refine P3.ext (L := [lf, fd]) ((Ext.wr (by simp)).trans (.wr (by simp))) ?_ ?_
        · simp [n1.symm, n3.symm]
        · simp [n2.symm, n4.symm]
      · exact ((e'.trans e3').put' hlf).put' hfd2
    · rintro σ H' ⟨L, F, y, rfl, hL, hF, hperm, hFl, P', e'⟩
      rw [Int.toNat_natCast] at hFl
      have tot : F.length + L.length = top := by have := hperm.length_eq; simpa using this
      have hL0 : L = [] := List.eq_nil_of_length_eq_zero (by omega)
      rw [hL0, List.append_nil] at hperm
      exact ⟨_, rfl, q F fd H' hperm hF hfd2 P' e'⟩

def sp_law_pickT (K : PySem.W.Frag) : Sp := fun vs H Q _ => ∃ (p l t : Addr) (xs : List V), vs = [.ref p, .ref t] ∧ PoolAt H p l ∧ SqT K H t xs ∧ 0 < xs.length ∧ xs.length < 1000 ∧ ∀ (i : Nat) (v : V) (H' : Hp), xs[i]? = some v → PoolAt H' p l → Ext [p, l] H H' → Q v H'
theorem okT_law_pick (T : Tx K mg) : FnOk P w K mg base CX0 2 T.law_pick.f T.law_pick.fd ["pool", "things"] (sp_law_pickT K) := by
  refine T.law_pick.F.ok sc_law_pick (fun vs H Q E h => ?_) (fun cdv A outer s H vs Q E hr h => ?_)
  · obtain ⟨p, l, t, xs, rfl, _⟩ := h; rfl
  · obtain ⟨p, l, t, xs, rfl, hP, hS, h0, h1, q⟩ := h
    refine ⟨_, (pss_one (ps_ret (pe_ix ix_tup (pv 1) (pe_call (ok_law_draw T) (hr.mono (by decide)) (by rfl) T.law_draw.g T.law_draw.F.kp T.law_draw.b .nil pass0 (pa_cons (pv 0) (pa_cons (pe_callB call_len_seq (by rfl) T.n_len PySem.boot_len (pa_cons (pv 1) pa_nil)) pa_nil))) (fun _ _ => rfl)))), ?_⟩
    refine ⟨_, rfl, _, rfl, _, rfl, t, xs, rfl, .inr hS, p, l, _, rfl, hP, by omega, by omega, fun r H' r0 r1 hP' e => ?_⟩
    obtain ⟨i, rfl⟩ : ∃ i : Nat, r = (i : Int) := ⟨r.toNat, by omega⟩
    have hi : i < xs.length := by omega
    exact ⟨t, xs, _, xs[i], rfl, rfl, e.tup hP.lsts hS, atI_nat (List.getElem?_eq_getElem hi), q i _ _ (List.getElem?_eq_getElem hi) hP' e⟩
/-! ### is what is led to right -/
end
end Nv
set_option Elab.async false
set_option linter.all false
set_option maxRecDepth 100000
namespace Nv
open PySem PySem.Spec PyProof.Rows L2
section
variable {P : Program} {w : World} {K : PySem.W.Frag} {mg : Str → Option Value} {base : Heap}
/-! ### a book by other numbers, and with states that no row comes to -/
/-- the rows of states, put at the numbers N -/
def putAt (N : List Nat) (rows : List State) : Book := (List.range N.length).map fun x => rows.getD (N.idxOf x) []
theorem putAt_len {N : List Nat} {rows : List State} : (putAt N rows).length = N.length := by simp [putAt]
theorem putAt_at {N : List Nat} {rows : List State} (nd : N.Nodup) {s x : Nat} (h : N[s]? = some x) (hx : x < N.length) : mvs (putAt N rows) x = rows.getD s [] := by
  refine mvs_of ?_
  unfold putAt
  rw [List.getElem?_map, List.getElem?_range hx]
  show some (rows.getD (N.idxOf x) []) = _
  rw [idx_of nd h]
/-- the moves of b, by the numbers N -/
def mvN (N : List Nat) (s : State) : State := s.map fun p => (p.1, N.getD p.2 0)
structure NumsOk (N : List Nat) (n : Nat) : Prop where
  perm : N.Perm (List.range n)
  zero : N[0]? = some 0
theorem NumsOk.nd {N : List Nat} {n : Nat} (h : NumsOk N n) : N.Nodup := h.perm.nodup_iff.mpr List.nodup_range
theorem NumsOk.len {N : List Nat} {n : Nat} (h : NumsOk N n) : N.length = n := by simpa using h.perm.length_eq
theorem NumsOk.lt {N : List Nat} {n : Nat} (h : NumsOk N n) {x : Nat} (hx : x ∈ N) : x < n := List.mem_range.mp (h.perm.mem_iff.mp hx)
theorem NumsOk.at_ {N : List Nat} {n : Nat} (h : NumsOk N n) {s : Nat} (hs : s < n) : N[s]? = some (N.getD s 0) := by
  have : s < N.length := by rw [h.len]; exact hs
  rw [List.getD_eq_getElem?_getD, List.getElem?_eq_getElem this]
  rfl
theorem NumsOk.ltD {N : List Nat} {n : Nat} (h : NumsOk N n) {s : Nat} (hs : s < n) : N.getD s 0 < n := h.lt (List.mem_of_getElem? (h.at_ hs))
/-- c is b by the numbers N; its other states come behind -/
structure PutB (b : Book) (N : List Nat) (R : List State) : Prop where
  n : NumsOk N (b.length + R.length)
  r : ∀ s ∈ R, StOk (b.length + R.length) s
theorem mvN_ok {n m : Nat} {N : List Nat} {s : State} (hN : NumsOk N m) (hn : n ≤ m) (h : StOk n s) : StOk m (mvN N s) := by
  refine ⟨by unfold mvN; rw [List.length_map]; exact h.few, ?_, fun p hp => ?_, fun p hp => ?_⟩
  · unfold mvN
    rw [List.map_map]
    exact h.rise
  · obtain ⟨q, hq, rfl⟩ := List.mem_map.mp hp
    exact h.msg q hq
  · obtain ⟨q, hq, rfl⟩ := List.mem_map.mp hp
    have := h.to q hq
    exact hN.ltD (by omega)
def putB (b : Book) (N : List Nat) (R : List State) : Book := putAt N (b.map (mvN N) ++ R)
theorem putB_len {b : Book} {N : List Nat} {R : List State} (h : PutB b N R) : (putB b N R).length = b.length + R.length := by rw [putB, putAt_len, h.n.len]
theorem putB_at {b : Book} {N : List Nat} {R : List State} (h : PutB b N R) {s x : Nat} (hs : s < b.length) (hx : N[s]? = some x) : mvs (putB b N R) x = mvN N (mvs b s) := by
  have hl := h.n.lt (List.mem_of_getElem? hx)
  unfold putB
  rw [putAt_at h.n.nd hx (by rw [h.n.len]; exact hl), List.getD_eq_getElem?_getD, List.getElem?_append_left (by rw [List.length_map]; exact hs), List.getElem?_map, mvs_lt hs]
  rfl
theorem putB_form {b : Book} {N : List Nat} {R : List State} (fb : FormB b) (h : PutB b N R) (h8 : b.length + R.length ≤ 8) : FormB (putB b N R) := by
  have hl := putB_len h
  refine ⟨by rw [hl]; have := fb.one; omega, by rw [hl]; exact h8, fun s hs => ?_⟩
  rw [hl]
  obtain ⟨x, hx, rfl⟩ := List.mem_map.mp hs
  have hx := List.mem_range.mp hx
  by_cases hi : N.idxOf x < (b.map (mvN N) ++ R).length
  · rw [List.getD_eq_getElem?_getD, List.getElem?_eq_getElem hi]
    show StOk _ (b.map (mvN N) ++ R)[N.idxOf x]
    rcases List.mem_append.mp (List.getElem_mem hi) with hm | hm
    · obtain ⟨t, ht, e⟩ := List.mem_map.mp hm
      rw [← e]
      exact mvN_ok h.n (by omega) (fb.st t ht)
    · exact h.r _ hm
  · rw [List.getD_eq_getElem?_getD, List.getElem?_eq_none (by omega)]
    exact ⟨Nat.zero_le _, .nil, (fun p hp => nomatch hp), fun p hp => nomatch hp⟩
theorem putB_rch {b : Book} {N : List Nat} {R : List State} (ok : OkB b) (h : PutB b N R) (x : Nat) : Rch (putB b N R) x ↔ ∃ s, s < b.length ∧ N[s]? = some x := by
  have fb := ok.toFormB
  constructor
  · intro hr
    induction hr with
    | zero => exact ⟨0, ok.one, h.n.zero⟩
    | step _ hp ih =>
      obtain ⟨s, hs, e⟩ := ih
      rw [putB_at h hs e] at hp
      obtain ⟨q, hq, rfl⟩ := List.mem_map.mp hp
      have := fb.to hq
      exact ⟨q.2, this, h.n.at_ (by omega)⟩
  · rintro ⟨s, hs, e⟩
    have hr := ok.reach s hs
    have : ∀ s, Rch b s → s < b.length ∧ Rch (putB b N R) (N.getD s 0) := by
      intro s hr
      induction hr with
      | zero =>
        refine ⟨ok.one, ?_⟩
        have z : N.getD 0 0 = 0 := by
          rw [List.getD_eq_getElem?_getD, h.n.zero]
          rfl
        rw [z]
        exact .zero
      | @step s p _ hp ih =>
        obtain ⟨h1, h2⟩ := ih
        have hm : (p.1, N.getD p.2 0) ∈ mvs (putB b N R) (N.getD s 0) := by
          rw [putB_at h h1 (h.n.at_ (by omega))]
          exact List.mem_map.mpr ⟨p, hp, rfl⟩
        exact ⟨fb.to hp, Rch.step h2 hm⟩
    have := (this s hr).2
    have e2 := h.n.at_ (s := s) (by omega)
    rw [e] at e2
    rw [← Option.some.inj e2] at this
    exact this
/-- all states of b by other numbers: again a book -/
theorem putB_okB {b : Book} {N : List Nat} (ok : OkB b) (h : PutB b N []) : OkB (putB b N []) := by
  have hl := putB_len h
  have h8 := ok.eight
  refine { putB_form ok.toFormB h (by simpa using h8) with reach := fun x hx => ?_ }
  rw [putB_rch ok h]
  rw [hl] at hx
  have hm : x ∈ N := h.n.perm.mem_iff.mpr (List.mem_range.mpr hx)
  obtain ⟨s, hs, e⟩ := List.mem_iff_getElem.mp hm
  have := h.n.len
  exact ⟨s, by simpa [this] using hs, by rw [List.getElem?_eq_getElem hs, e]⟩
/-- the first stray: the least of the numbers behind -/
theorem putB_stray {b : Book} {N : List Nat} {R : List State} (ok : OkB b) (h : PutB b N R) {k : Nat} {r : List Nat} (hS : (k :: r).Perm (N.drop b.length)) (hs : (k :: r).Pairwise (· < ·)) : StrayAt (putB b N R) k := by
  have hl := putB_len h
  have nl := h.n.len
  have place : ∀ {x : Nat}, x ∈ N.drop b.length → ¬ ∃ s, s < b.length ∧ N[s]? = some x := by
    rintro x hx ⟨s, hs, e⟩
    obtain ⟨j, hj, ej⟩ := List.mem_iff_getElem.mp hx
    rw [List.getElem_drop] at ej
    rw [List.length_drop] at hj
    have a1 := idx_of h.n.nd e
    have a2 := idx_of h.n.nd (j := b.length + j) (s := x) (by rw [List.getElem?_eq_getElem (by omega), ej])
    omega
  have hk : k ∈ N.drop b.length := hS.mem_iff.mp (List.mem_cons_self ..)
  refine ⟨by rw [hl]; exact h.n.lt (List.mem_of_mem_drop hk), fun z => place hk ((putB_rch ok h k).mp z), fun t ht => ?_⟩
  rw [putB_rch ok h]
  have htn : t < b.length + R.length := by
    have := h.n.lt (List.mem_of_mem_drop hk)
    omega
  have hm : t ∈ N := h.n.perm.mem_iff.mpr (List.mem_range.mpr htn)
  obtain ⟨s, hs', e⟩ := List.mem_iff_getElem.mp hm
  refine ⟨s, ?_, by rw [List.getElem?_eq_getElem hs', e]⟩
  by_cases hsb : s < b.length
  · exact hsb
  · exfalso
    have hd : t ∈ N.drop b.length := List.mem_iff_getElem.mpr ⟨s - b.length, by rw [List.length_drop]; omega, by rw [List.getElem_drop]; rw [← e]; congr 1; omega⟩
    have := hS.mem_iff.mpr hd
    rcases List.mem_cons.mp this with e2 | e2
    · omega
    · have := (List.pairwise_cons.mp hs).1 t e2
      omega
end
end Nv
set_option Elab.async false
set_option linter.all false
set_option maxRecDepth 100000
namespace Nv
open PySem PySem.Spec PyProof.Rows L2
section
variable {P : Program} {w : World} {K : PySem.W.Frag} {mg : Str → Option Value} {base : Heap}
/-! ### the law's books by other numbers -/
theorem cat0 (ms : List Nat) : [V.int 0] ++ (ms.map fun m => nV (1 + m)) = ((0 :: ms.map (1 + ·)).map nV) := by
  rw [List.map_cons, List.map_map]
  rfl
theorem nums_of {ms : List Nat} {n : Nat} (h : ms.Perm (List.range n)) : NumsOk (0 :: ms.map (1 + ·)) (n + 1) := by
  refine ⟨?_, rfl⟩
  have e : List.range (n + 1) = 0 :: (List.range n).map (1 + ·) := by
    rw [List.range_succ_eq_map]
    congr 1
    refine List.map_congr_left fun x _ => ?_
    show x + 1 = 1 + x
    omega
  rw [e]
  exact (h.map _).cons 0
/-- a list in which the rows of states stand at the numbers N -/
def FillR (K : PySem.W.Frag) (H : Hp) (fd : Addr) (N : List Nat) (rows : List State) : Prop := ∃ xs : List V, H fd = some (.lst xs) ∧ xs.length = N.length ∧ ∀ (s : Nat) (r : State) (x : Nat), rows[s]? = some r → N[s]? = some x → ∃ v, xs[x]? = some v ∧ StV K H v r
theorem FillR.ext {K : PySem.W.Frag} {H H' : Hp} {fd : Addr} {N : List Nat} {rows : List State} {L : List Addr} (h : FillR K H fd N rows) (e : Ext L H H') (l : Lsts L H) (n : fd ∉ L) : FillR K H' fd N rows := by
  obtain ⟨xs, h1, h2, h3⟩ := h
  exact ⟨xs, e.at h1 n, h2, fun s r x a b => by
    obtain ⟨v, c, d⟩ := h3 s r x a b
    exact ⟨v, c, d.ext e l⟩⟩
theorem FillR.put {K : PySem.W.Frag} {H : Hp} {fd : Addr} {N : List Nat} {rows : List State} {xs : List V} {r : State} {v : V} {x : Nat} (h1 : H fd = some (.lst xs)) (h2 : xs.length = N.length) (h3 : ∀ (s : Nat) (r : State) (x : Nat), rows[s]? = some r → N[s]? = some x → ∃ v, xs[x]? = some v ∧ StV K H v r) (nd : N.Nodup) (hx : N[rows.length]? = some x) (lx : x < N.length) (hv : StV K H v r) :
    FillR K (upd H fd (.lst (xs.set x v))) fd N (rows ++ [r]) := by
  have e : Ext [fd] H (upd H fd (.lst (xs.set x v))) := .wr (by simp)
  have l := one_lst h1
  refine ⟨xs.set x v, upd_same, by rw [List.length_set]; exact h2, fun s r' x' a b => ?_⟩
  by_cases hs : s < rows.length
  · rw [List.getElem?_append_left hs] at a
    obtain ⟨u, c, d⟩ := h3 s r' x' a b
    refine ⟨u, ?_, d.ext e l⟩
    have : x ≠ x' := fun z => by
      subst z
      have a1 := idx_of nd hx
      have a2 := idx_of nd b
      omega
    rw [List.getElem?_set_ne this]
    exact c
  · have hl := (List.getElem?_eq_some_iff.mp a).1
    rw [List.length_append, List.length_singleton] at hl
    have es : s = rows.length := by omega
    subst es
    rw [List.getElem?_append_right (Nat.le_refl _), Nat.sub_self] at a
    cases a
    rw [hx] at b
    cases b
    exact ⟨v, by rw [List.getElem?_set_self (by omega)], hv.ext e l⟩
theorem FillR.done {K : PySem.W.Frag} {H : Hp} {N : List Nat} {rows : List State} {xs : List V} {n : Nat} (h2 : xs.length = N.length) (h3 : ∀ (s : Nat) (r : State) (x : Nat), rows[s]? = some r → N[s]? = some x → ∃ v, xs[x]? = some v ∧ StV K H v r) (hN : NumsOk N n) (hr : rows.length = n) : Paired (StV K H) xs (putAt N rows) := by
  have key : ∀ (l : List V) (b : Book), l.length = b.length → (∀ (x : Nat) (v : V), l[x]? = some v → ∃ r, b[x]? = some r ∧ StV K H v r) → Paired (StV K H) l b := by
    intro l
    induction l with
    | nil =>
      intro b hb _
      cases b with
      | nil => exact .nil
      | cons _ _ => cases hb
    | cons v r ih =>
      intro b hb h
      cases b with
      | nil => cases hb
      | cons c b =>
        obtain ⟨r0, e, hv⟩ := h 0 v rfl
        cases e
        exact .cons hv (ih b (by simpa using hb) fun x u e => h (x + 1) u (by simpa using e))
  refine key xs _ (by rw [putAt_len]; exact h2) fun x v hv => ?_
  have hx : x < N.length := by rw [← h2]; exact (List.getElem?_eq_some_iff.mp hv).1
  have hm : x ∈ N := hN.perm.mem_iff.mpr (List.mem_range.mpr (by rw [← hN.len]; exact hx))
  obtain ⟨s, hs, e⟩ := List.mem_iff_getElem.mp hm
  have hNs : N[s]? = some x := by rw [List.getElem?_eq_getElem hs, e]
  have hsr : s < rows.length := by rw [hr, ← hN.len]; exact hs
  obtain ⟨u, hu, hst⟩ := h3 s rows[s] x (List.getElem?_eq_getElem hsr) hNs
  rw [hv] at hu
  cases hu
  refine ⟨rows[s], ?_, hst⟩
  have hl : x < (putAt N rows).length := by rw [putAt_len]; exact hx
  rw [mvs_lt hl, putAt_at hN.nd hNs hx, List.getD_eq_getElem?_getD, List.getElem?_eq_getElem hsr]
  rfl
theorem cutDropN (xs : List V) (n : Nat) : cutV xs (some (n : Int)) none = xs.drop n := by
  unfold cutV
  rw [HT.sIx_nat, HT.sIx_none]
  by_cases h : n ≤ xs.length
  · rw [Nat.min_eq_left h, List.take_of_length_le (by rw [List.length_drop]; exact Nat.le_refl _)]
  · rw [Nat.min_eq_right (by omega), List.drop_of_length_le (Nat.le_refl _), List.drop_of_length_le (by omega), List.take_nil]
theorem sc_law_book_renamed : FnScope ["pool", "book", "names", "found", "state", "moves", "at", "message", "to"] ["pool", "book"] (defScope s_law_book_renamed) := ⟨rfl, rfl, rfl, by decide +kernel, rfl, by decide +kernel, by decide +kernel⟩
def sp_law_book_renamed (K : PySem.W.Frag) : Sp := fun vs H Q _ => ∃ (p l : Addr) (v : V) (b : Book), vs = [.ref p, v] ∧ PoolAt H p l ∧ BkV K H v b ∧ FormB b ∧
  ∀ (N : List Nat) (r tn : Addr) (c : V) (H' : Hp), PutB b N [] → H' r = some (.lst [c, .ref tn]) → BkV K H' c (putB b N []) → PoolAt H' p l → Ext [p, l] H H' → Q (.ref r) H'
theorem ok_law_book_renamed (T : Tx K mg) : FnOk P w K mg base CX0 3 T.law_book_renamed.f T.law_book_renamed.fd ["pool", "book"] (sp_law_book_renamed K) := by
  refine T.law_book_renamed.F.ok sc_law_book_renamed (fun vs H Q E h => ?_) (fun cdv A outer s H vs Q E hr h => ?_)
  · obtain ⟨p, l, v, b, rfl, _⟩ := h; rfl
  · obtain ⟨p, l, v, b, rfl, P0, hb, fb, q⟩ := h
    obtain ⟨m, ls, rfl, hm, hls⟩ := id hb
    have h8 := fb.eight
    have h1 := fb.one
    have llen : ls.length = b.length := Paired.len hls
    refine ⟨_, (pss_cons (ps_set (i := 2) sc_law_book_renamed.nd rfl (.inr rfl) (pe_op op_cat (pe_lst (pa_cons pe_int pa_nil)) (pe_lc (own := [("at", 6)]) rfl sc_law_book_renamed.nd (pi_list (pe_call (ok_law_turned T) (hr.mono (by decide)) (by rfl) T.law_turned.g T.law_turned.F.kp T.law_turned.b .nil pass0 (pa_cons (pv 0) (pa_cons (pe_op op_sub (pe_callB call_len_seq (by rfl) T.n_len PySem.boot_len (pa_cons (pv 1) pa_nil)) pe_int) pa_nil)))) (blkOk_by (own := [("at", 6)]) (N := ["pool", "book", "names", "found", "state", "moves", "at", "message", "to"]) (sc := defScope s_law_book_renamed) (by decide +kernel)) (fun _ _ _ _ _ => (pg_name (i := 6) sc_law_book_renamed.nd rfl (.inl rfl))) (fun _ _ _ _ _ => pts_nil) (fun _ _ _ _ _ => (pe_op op_add pe_int (pv 6))))))
      (pss_cons (ps_set (i := 3) sc_law_book_renamed.nd rfl (.inl rfl) (pe_op op_rep (pe_lst (pa_cons (pe_tup pa_nil) pa_nil)) (pe_callB call_len_seq (by rfl) T.n_len PySem.boot_len (pa_cons (pv 1) pa_nil))))
      (pss_cons (ps_for PassesOwn.never rfl (pi_enumT (by rfl) T.n_enumerate (pa_cons (pv 1) pa_nil)) (pg_tup rfl (pgs_cons (pg_name (i := 4) sc_law_book_renamed.nd rfl (.inl rfl)) (pgs_cons (pg_name (i := 5) sc_law_book_renamed.nd rfl (.inl rfl)) pgs_nil)))
        (pss_one (ps_asg (pe_callTy call_tupZ (by rfl) T.n_tuple (by decide +kernel) (pa_cons (pe_lc (own := [("message", 7), ("to", 8)]) rfl sc_law_book_renamed.nd (pi_tup (pv 5)) (blkOk_by (own := [("message", 7), ("to", 8)]) (N := ["pool", "book", "names", "found", "state", "moves", "at", "message", "to"]) (sc := defScope s_law_book_renamed) (by decide +kernel)) (fun _ _ _ _ _ => (pg_tupK (n := 2) K rfl (pgs_cons (pg_name (i := 7) sc_law_book_renamed.nd rfl (.inl rfl)) (pgs_cons (pg_name (i := 8) sc_law_book_renamed.nd rfl (.inl rfl)) pgs_nil)))) (fun _ _ _ _ _ => pts_nil) (fun _ _ _ _ _ => (pe_tup (pa_cons (pv 7) (pa_cons (pe_ix (ix_listK K) (pv 2) (pv 8) (fun _ _ => rfl)) pa_nil))))) pa_nil)) (pg_sub (pv 3) (pe_ix ix_list (pv 2) (pv 4) (fun _ _ => rfl)) set_list))))
      (pss_one (ps_ret (pe_lst (pa_cons (pe_callTy call_tupZ (by rfl) T.n_tuple (by decide +kernel) (pa_cons (pv 3) pa_nil)) (pa_cons (pv 2) pa_nil)))))))), ?_⟩
    refine ⟨(by show 1 ≤ sizeLine; decide), fun z0 hz0 => ?_⟩
    have e1 : Ext [] H (upd H z0 (.lst [.int 0])) := .new hz0
    have P1 := P0.ext0 e1
    refine ⟨_, rfl, _, rfl, m, _, rfl, .inr (e1.tup Lsts.nil hm), _, _, rfl, rfl, p, l, b.length - 1, ?_, P1, by omega, fun ms t H2 perm ht nt P2 e2 => ?_⟩
    · rw [llen]
      have : ((b.length : Int) - 1) = ((b.length - 1 : Nat) : Int) := by omega
      show [V.ref p, V.int ((b.length : Int) - 1)] ++ [] = _
      rw [this]
      rfl
    -- names
    have fz0 : z0 ≠ p ∧ z0 ≠ l := P0.off hz0
    have hz2 := e2.at (upd_same (H := H) (a := z0) (o := HO.lst [.int 0])) (off2 fz0.1 fz0.2)
    refine ⟨t, rfl, ⟨_, .of ht⟩, fun D hD => ?_⟩
    refine lc_list (K := K) (a := t) (xs := ms.map nV) (fun i H' => H' D = some (.lst (((ms.take i).map (1 + ·)).map nV)) ∧ Ext [] H2 H') ⟨by simp; exact upd_same, .new hD⟩ (fun i H' _ ⟨_, e⟩ => .of (e.at ht (by simp))) ?_ ?_
    · rintro i v H' hv ⟨hX, e⟩
      obtain ⟨x, hx, rfl⟩ := map_at hv
      have hi := (List.getElem?_eq_some_iff.mp hx).1
      have ml := perm.length_eq
      rw [List.length_range] at ml
      refine ⟨rfl, yes ⟨_, rfl, _, _, rfl, rfl, _, hX, ?_, ?_, e.put hD⟩⟩
      · rw [List.length_map, List.length_map, List.length_take]
        exact small1000 (by omega)
      · rw [upd_same, List.take_add_one, hx, List.map_append, List.map_append]
        show some (HO.lst (_ ++ [V.int (1 + (x : Int))])) = some (HO.lst (_ ++ [nV (1 + x)]))
        rw [show (1 + (x : Int)) = ((1 + x : Nat) : Int) by omega]
    rintro H3 ⟨hD3, e3⟩
    rw [List.length_map, List.take_length] at hD3
    have NO := nums_of perm
    have nb : b.length - 1 + 1 = b.length := by omega
    rw [nb] at NO
    have ml : ms.length = b.length - 1 := by simpa using perm.length_eq
    refine ⟨z0, D, _, _, rfl, rfl, e3.at hz2 (by simp), hD3, ?_, fun nm hnm => ?_⟩
    · rw [List.length_map, List.length_map]
      exact Nat.le_of_lt (small1000 (by show 1 + ms.length ≤ 1000; omega))
    obtain ⟨N, eN⟩ : ∃ N, N = 0 :: ms.map (1 + ·) := ⟨_, rfl⟩
    have enm : ([V.int 0] ++ (ms.map (1 + ·)).map nV) = N.map nV := by rw [eN]; rfl
    rw [enm]
    rw [← eN] at NO
    have e4 : Ext [p, l] H (upd H3 nm (.lst (N.map nV))) := ((e1.weak.trans e2).trans e3.weak).put2 hnm
    have P4 := (P2.ext0 e3).ext0 (Ext.new (o := HO.lst (N.map nV)) hnm)
    have hnm4 : upd H3 nm (.lst (N.map nV)) nm = some (.lst (N.map nV)) := upd_same
    clear hnm hD3 hD e3 ht e2 P2 hz2 e1 P1 nt
    generalize upd H3 nm (.lst (N.map nV)) = H4 at *
    have Nl := NO.len
    -- found = [()] * len(book)
    refine ⟨Nat.zero_le _, fun t0 ht0 => ⟨(by show 1 ≤ sizeLine; decide), fun l0 hl0 => ⟨_, rfl, m, _, rfl, .inr (((e4.trans (Ext.new ht0).weak).trans (Ext.new hl0).weak).tup P0.lsts hm), l0, _, _, rfl, rfl, upd_same, by omega, by omega, ?_, fun fd hfd => ?_⟩⟩⟩
    · show 1 * ((ls.length : Int)).toNat ≤ sizeLine
      rw [Int.toNat_natCast, Nat.one_mul]
      exact Nat.le_of_lt (small1000 (by omega))
    have eL : (List.replicate ((ls.length : Int)).toNat [V.ref t0]).flatten = List.replicate b.length (V.ref t0) := by
      rw [Int.toNat_natCast, llen]
      clear q hb hls h8 h1 llen fb NO Nl nb perm ml e4
      induction b.length with
      | zero => rfl
      | succ n ih => rw [List.replicate_succ, List.flatten_cons, ih, List.replicate_succ]; rfl
    rw [eL]
    have e5 : Ext [p, l] H (upd (upd (upd H4 t0 (.tup [])) l0 (.lst [.ref t0])) fd (.lst (List.replicate b.length (V.ref t0)))) := ((e4.put2 ht0).put2 hl0).put2 hfd
    have P5 := ((P4.ext0 (Ext.new (o := HO.tup []) ht0)).ext0 (Ext.new (o := HO.lst [V.ref t0]) hl0)).ext0 (Ext.new (o := HO.lst (List.replicate b.length (V.ref t0))) hfd)
    have hnm5 : upd (upd (upd H4 t0 (.tup [])) l0 (.lst [.ref t0])) fd (.lst (List.replicate b.length (V.ref t0))) nm = some (.lst (N.map nV)) := ((((Ext.new (L := []) ht0).trans (Ext.new hl0)).trans (Ext.new hfd))).at hnm4 (by simp)
    have hfd5 : upd (upd (upd H4 t0 (.tup [])) l0 (.lst [.ref t0])) fd (.lst (List.replicate b.length (V.ref t0))) fd = some (.lst (List.replicate b.length (V.ref t0))) := upd_same
    have ffd : H fd = none := ((e4.put2 ht0).put2 hl0).free2 hfd (off2 (P4.off (((Ext.new (L := []) ht0).trans (Ext.new hl0)).free hfd)).1 (P4.off (((Ext.new (L := []) ht0).trans (Ext.new hl0)).free hfd)).2)
    clear hfd hl0 ht0 hnm4 P4 e4
    generalize upd (upd (upd H4 t0 (.tup [])) l0 (.lst [.ref t0])) fd (.lst (List.replicate b.length (V.ref t0))) = H5 at *
    have nmfd : nm ≠ fd := fun z => by 
      rw [z, hfd5] at hnm5
      have z2 : List.replicate b.length (V.ref t0) = N.map nV := by injection (Option.some.inj hnm5)
      have z3 : (N.map nV)[0]? = some (nV 0) := at_map NO.zero
      rw [← z2, List.getElem?_replicate] at z3
      split at z3 <;> cases z3
    have F5 : FillR K H5 fd N [] := ⟨_, hfd5, by rw [List.length_replicate, Nl], fun s r x a _ => by simp at a⟩
    refine ⟨_, rfl, m, ls, rfl, e5.tup P0.lsts hm, ?_⟩
    refine for_it (walk_enumT (K := K) (a := m) (xs := ls)) (fun i σ H' => ∃ (y4 y5 : Option V), σ = [some (.ref p), some (.ref m), some (.ref nm), some (.ref fd), y4, y5, none, none, none] ∧ FillR K H' fd N ((b.take i).map (mvN N)) ∧ H' nm = some (.lst (N.map nV)) ∧ PoolAt H' p l ∧ Ext [p, l] H H') ⟨_, _, rfl, F5, hnm5, P5, e5⟩ (fun i σ H' _ ⟨_, _, _, _, _, _, e⟩ => e.tup P0.lsts hm) ?_ ?_
    · rintro i v σ H6 H' hi ⟨y4, y5, rfl, F6, hnm6, P6, e6⟩ ⟨T', x, y, rfl, hT, rfl, hx, hy⟩
      cases hx
      have hib : i < b.length := by omega
      have hy : ls[i]? = some y := hy
      obtain ⟨st, hst, a, ps, rfl, ha, hps⟩ := Paired.get' hls hy
      rw [mvs_lt hib] at hst
      obtain rfl := Option.some.inj hst
      have plen := Paired.len hps
      have five := (fb.ok hib).few
      have e7 : Ext [] H6 (upd H6 T' (.tup [.int i, .ref a])) := .new hT
      refine ⟨T', _, rfl, .of upd_same, rfl, _, _, rfl, _, _, rfl, rfl, ?_⟩
      have F7 := F6.ext e7 Lsts.nil (by simp)
      have hnm7 := e7.at hnm6 (by simp)
      have P7 := P6.ext0 e7
      have e6 := e6.trans e7.weak
      clear e7 hnm6 F6 P6 hT
      generalize upd H6 T' (.tup [.int i, .ref a]) = H7 at *
      refine ⟨_, rfl, a, rfl, ⟨_, e6.tup P0.lsts ha.sq⟩, fun D hD => ?_⟩
      refine lc_tup (K := K) (a := a) (xs := ps.map V.ref) (fun k H2 => ∃ qs : List Addr, H2 D = some (.lst (qs.map V.ref)) ∧ Paired (MvV K H2) qs (mvN N ((mvs b i).take k)) ∧ Ext [] H7 H2) ⟨[], upd_same, .nil, .new hD⟩ (fun k H2 _ ⟨_, _, _, e2⟩ => (e6.trans e2.weak).tup P0.lsts ha.sq) ?_ ?_
      · rintro k v H2 hv ⟨qs, hq, hqp, e2⟩
        obtain ⟨c, hc, rfl⟩ := map_at hv
        obtain ⟨q', hp, hcp⟩ := Paired.get' hps hc
        have hcp : SqT K H2 c [.int q'.1, .int q'.2] := (e6.trans e2.weak).tup P0.lsts hcp
        have hto := fb.to (List.mem_of_getElem? hp)
        refine ⟨c, _, rfl, hcp, rfl, _, _, rfl, _, _, rfl, rfl, rfl, yes ?_⟩
        refine ⟨_, rfl, _, rfl, _, rfl, nm, _, _, _, rfl, rfl, .of (e2.at hnm7 (by simp)), atI_nat (at_map (NO.at_ hto)), (by show 2 ≤ sizeLine; decide), fun t ht => ?_⟩
        have e3 : Ext [] H2 (upd H2 t (.tup [.int q'.1, nV (N.getD q'.2 0)])) := .new ht
        refine ⟨_, e3.at hq (by simp), ?_, qs ++ [t], by rw [upd_same, List.map_append]; rfl, ?_, (e2.trans e3).put hD⟩
        · rw [List.length_map, Paired.len hqp, mvN, List.length_map, List.length_take]
          exact small1000 (by omega)
        · rw [List.take_add_one, hp, mvN, List.map_append]
          refine Paired.snoc ?_ (Paired.imp hqp fun _ _ z => (z.ext0 e3).put (e3.at hq (by simp)))
          exact MvV.put (m := (q'.1, N.getD q'.2 0)) (.of upd_same) (e3.at hq (by simp))
      · rintro H2 ⟨qs, hq, hqp, e2⟩
        have ek : (mvs b i).take (ps.map V.ref).length = mvs b i := List.take_of_length_le (by rw [List.length_map, plen]; exact Nat.le_refl _)
        rw [ek] at hqp
        refine ⟨D, _, rfl, .of hq, fun t H3 ht hH3 => ?_⟩
        obtain ⟨o, od, rfl⟩ := hH3
        have e3 : Ext [] H2 (upd H2 t (.frz o (.tup (qs.map V.ref)))) := .new ht
        have e4 := e2.trans e3
        have F8 := F7.ext e4 Lsts.nil (by simp)
        have hnm8 := e4.at hnm7 (by simp)
        have P8 := P7.ext0 e4
        have e8 := e6.trans e4.weak
        have st8 : StV K (upd H2 t (.frz o (.tup (qs.map V.ref)))) (.ref t) (mvN N (mvs b i)) := ⟨t, qs, rfl, ⟨o, upd_same, od⟩, Paired.imp hqp fun _ _ z => z.ext0 e3⟩
        clear e4 e3 ht hq hqp e2 F7 hnm7 P7
        generalize upd H2 t (.frz o (.tup (qs.map V.ref))) = H8 at *
        obtain ⟨xs, hX, hxl, hxr⟩ := F8
        have hNi := NO.at_ hib
        have hlt := NO.ltD hib
        refine ⟨_, rfl, _, rfl, _, rfl, nm, _, _, _, rfl, rfl, .of hnm8, atI_nat (at_map hNi), fd, xs, _, _, rfl, rfl, hX, ixNat (by rw [hxl, Nl]; exact hlt), ?_⟩
        obtain ⟨fp, fl⟩ := P0.off ffd
        refine ⟨_, _, rfl, ?_, by rw [upd_ne nmfd]; exact hnm8, P8.put fp fl, e8.put' ffd⟩
        rw [List.take_add_one, mvs_lt hib, List.map_append]
        refine FillR.put hX hxl hxr NO.nd ?_ (by rw [Nl]; exact hlt) st8
        rw [List.length_map, List.length_take, Nat.min_eq_left (Nat.le_of_lt hib)]
        exact hNi
    · rintro σ H6 ⟨y4, y5, rfl, ⟨xs, hX, hxl, hxr⟩, hnm6, P6, e6⟩
      rw [llen, List.take_length] at hxr
      refine ⟨_, rfl, fd, xs, rfl, .of hX, fun t H7 ht hH7 => ?_⟩
      obtain ⟨o, od, rfl⟩ := hH7
      have e7 : Ext [] H6 (upd H6 t (.frz o (.tup xs))) := .new ht
      have hp := FillR.done hxl hxr NO (by rw [List.length_map])
      refine ⟨_, rfl, (by show 2 ≤ sizeLine; decide), fun r hr' => ?_⟩
      have e8 := e7.put2 (o := .lst [.ref t, .ref nm]) hr'
      have pb : PutB b N [] := ⟨by simpa using NO, fun s hs => nomatch hs⟩
      refine q N r nm (.ref t) _ pb upd_same ?_ (P6.ext0 e8) (e6.trans e8.weak)
      have eb : putB b N [] = putAt N (b.map (mvN N)) := by unfold putB; rw [List.append_nil]
      rw [eb]
      exact BkV.ext0 ⟨t, xs, rfl, .inl (.inr ⟨o, upd_same⟩), Paired.imp hp fun _ _ z => z.ext0 e7⟩ (.new hr')
theorem sc_law_with_strays : FnScope ["pool", "book", "size", "order", "found", "state", "moves", "some", "at", "message", "to"] ["pool", "book"] (defScope s_law_with_strays) := ⟨rfl, rfl, rfl, by decide +kernel, rfl, by decide +kernel, by decide +kernel⟩
def sp_law_with_strays (K : PySem.W.Frag) : Sp := fun vs H Q _ => ∃ (p l : Addr) (v : V) (b : Book), vs = [.ref p, v] ∧ PoolAt H p l ∧ BkV K H v b ∧ FormB b ∧
  ∀ (N S : List Nat) (R : List State) (r ts : Addr) (c : V) (H' : Hp), PutB b N R → b.length + R.length ≤ 8 → S.Perm (N.drop b.length) → S.Pairwise (· < ·) → H' r = some (.lst [c, .ref ts]) → BkV K H' c (putB b N R) → H' ts = some (.lst (S.map nV)) → PoolAt H' p l → Ext [p, l] H H' → Q (.ref r) H'
theorem ok_law_with_strays (T : Tx K mg) : FnOk P w K mg base CX0 3 T.law_with_strays.f T.law_with_strays.fd ["pool", "book"] (sp_law_with_strays K) := by
  refine T.law_with_strays.F.ok sc_law_with_strays (fun vs H Q E h => ?_) (fun cdv A outer s H vs Q E hr h => ?_)
  · obtain ⟨p, l, v, b, rfl, _⟩ := h; rfl
  · obtain ⟨p, l, v, b, rfl, P0, hb, fb, q⟩ := h
    obtain ⟨m, ls, rfl, hm, hls⟩ := id hb
    have h8 := fb.eight
    have h1 := fb.one
    have llen : ls.length = b.length := Paired.len hls
    refine ⟨_, (pss_cons (ps_set (i := 2) sc_law_with_strays.nd rfl (.inr rfl) (pe_op op_add (pe_callB call_len_seq (by rfl) T.n_len PySem.boot_len (pa_cons (pv 1) pa_nil)) (pe_call (ok_law_draw T) (hr.mono (by decide)) (by rfl) T.law_draw.g T.law_draw.F.kp T.law_draw.b .nil pass0 (pa_cons (pv 0) (pa_cons (pe_callB (call_min2 rfl) (by rfl) T.n_min (by decide +kernel) (pa_cons pe_int (pa_cons (pe_op op_sub pe_int (pe_callB call_len_seq (by rfl) T.n_len PySem.boot_len (pa_cons (pv 1) pa_nil))) pa_nil))) pa_nil)))))
      (pss_cons (ps_set (i := 3) sc_law_with_strays.nd rfl (.inr rfl) (pe_op op_cat (pe_lst (pa_cons pe_int pa_nil)) (pe_lc (own := [("at", 8)]) rfl sc_law_with_strays.nd (pi_list (pe_call (ok_law_turned T) (hr.mono (by decide)) (by rfl) T.law_turned.g T.law_turned.F.kp T.law_turned.b .nil pass0 (pa_cons (pv 0) (pa_cons (pe_op op_sub (pv 2) pe_int) pa_nil)))) (blkOk_by (own := [("at", 8)]) (N := ["pool", "book", "size", "order", "found", "state", "moves", "some", "at", "message", "to"]) (sc := defScope s_law_with_strays) (by decide +kernel)) (fun _ _ _ _ _ => (pg_name (i := 8) sc_law_with_strays.nd rfl (.inl rfl))) (fun _ _ _ _ _ => pts_nil) (fun _ _ _ _ _ => (pe_op op_add pe_int (pv 8))))))
      (pss_cons (ps_set (i := 4) sc_law_with_strays.nd rfl (.inl rfl) (pe_op op_rep (pe_lst (pa_cons (pe_tup pa_nil) pa_nil)) (pv 2)))
      (pss_cons (ps_for PassesOwn.never rfl (pi_enumT (by rfl) T.n_enumerate (pa_cons (pv 1) pa_nil)) (pg_tup rfl (pgs_cons (pg_name (i := 5) sc_law_with_strays.nd rfl (.inl rfl)) (pgs_cons (pg_name (i := 6) sc_law_with_strays.nd rfl (.inl rfl)) pgs_nil)))
        (pss_one (ps_asg (pe_callTy call_tupZ (by rfl) T.n_tuple (by decide +kernel) (pa_cons (pe_lc (own := [("message", 9), ("to", 10)]) rfl sc_law_with_strays.nd (pi_tup (pv 6)) (blkOk_by (own := [("message", 9), ("to", 10)]) (N := ["pool", "book", "size", "order", "found", "state", "moves", "some", "at", "message", "to"]) (sc := defScope s_law_with_strays) (by decide +kernel)) (fun _ _ _ _ _ => (pg_tupK (n := 2) K rfl (pgs_cons (pg_name (i := 9) sc_law_with_strays.nd rfl (.inl rfl)) (pgs_cons (pg_name (i := 10) sc_law_with_strays.nd rfl (.inl rfl)) pgs_nil)))) (fun _ _ _ _ _ => pts_nil) (fun _ _ _ _ _ => (pe_tup (pa_cons (pv 9) (pa_cons (pe_ix (ix_listK K) (pv 3) (pv 10) (fun _ _ => rfl)) pa_nil))))) pa_nil)) (pg_sub (pv 4) (pe_ix ix_list (pv 3) (pv 5) (fun _ _ => rfl)) set_list))))
      (pss_cons (ps_for PassesOwn.never rfl (pi_range2 (by rfl) T.n_range (pa_cons (pe_callB call_len_seq (by rfl) T.n_len PySem.boot_len (pa_cons (pv 1) pa_nil)) (pa_cons (pv 2) pa_nil))) (pg_name (i := 5) sc_law_with_strays.nd rfl (.inl rfl))
        (pss_cons (ps_set (i := 7) sc_law_with_strays.nd rfl (.inl rfl) (pe_call (ok_law_book_messages T) (hr.mono (by decide)) (by rfl) T.law_book_messages.g T.law_book_messages.F.kp T.law_book_messages.b .nil pass0 (pa_cons (pv 0) (pa_cons (pe_call (ok_law_draw T) (hr.mono (by decide)) (by rfl) T.law_draw.g T.law_draw.F.kp T.law_draw.b .nil pass0 (pa_cons (pv 0) (pa_cons pe_int pa_nil))) pa_nil))))
        (pss_one (ps_asg (pe_callTy call_tupZ (by rfl) T.n_tuple (by decide +kernel) (pa_cons (pe_lc (own := [("message", 9)]) rfl sc_law_with_strays.nd (pi_list (pv 7)) (blkOk_by (own := [("message", 9)]) (N := ["pool", "book", "size", "order", "found", "state", "moves", "some", "at", "message", "to"]) (sc := defScope s_law_with_strays) (by decide +kernel)) (fun _ _ _ _ _ => (pg_name (i := 9) sc_law_with_strays.nd rfl (.inl rfl))) (fun _ _ _ _ _ => pts_nil) (fun _ _ _ _ _ => (pe_tup (pa_cons (pv 9) (pa_cons (pe_call (ok_law_draw T) (hr.mono (by decide)) (by rfl) T.law_draw.g T.law_draw.F.kp T.law_draw.b .nil pass0 (pa_cons (pv 0) (pa_cons (pv 2) pa_nil))) pa_nil))))) pa_nil)) (pg_sub (pv 4) (pe_ix ix_list (pv 3) (pv 5) (fun _ _ => rfl)) set_list)))))
      (pss_one (ps_ret (pe_lst (pa_cons (pe_callTy call_tupZ (by rfl) T.n_tuple (by decide +kernel) (pa_cons (pv 4) pa_nil)) (pa_cons (pe_callB cr_sorted (by rfl) T.n_sorted (by decide +kernel) (pa_cons (pe_slice sl_list (pv 3) (po_some (pe_callB call_len_seq (by rfl) T.n_len PySem.boot_len (pa_cons (pv 1) pa_nil))) po_none) pa_nil)) pa_nil)))))))))), ?_⟩
    -- size
    refine ⟨_, rfl, m, _, rfl, .inr hm, _, rfl, _, rfl, m, _, rfl, .inr hm, _, _, rfl, rfl, _, _, rfl, p, l, _, rfl, P0, ?_, ?_, fun r0 H0 r00 r01 P00 e0 => ⟨_, _, rfl, rfl, ?_⟩⟩
    · split <;> omega
    · split <;> omega
    have r02 : r0 < 4 ∧ r0 < 9 - (ls.length : Int) := by
      split at r01 <;> omega
    obtain ⟨n, er⟩ : ∃ n : Nat, (ls.length : Int) + r0 = (n : Int) := ⟨ls.length + r0.toNat, by omega⟩
    simp only [er]
    have hn : b.length ≤ n := by omega
    have hn8 : n ≤ 8 := by omega
    have hn1 : 1 ≤ n := by omega
    clear r01 r02
    have hm0 := e0.tup P0.lsts hm
    refine ⟨(by show 1 ≤ sizeLine; decide), fun z0 hz0 => ?_⟩
    have e1 : Ext [] H0 (upd H0 z0 (.lst [.int 0])) := .new hz0
    have P1 := P00.ext0 e1
    refine ⟨_, rfl, _, rfl, _, _, rfl, rfl, p, l, n - 1, ?_, P1, by omega, fun ms t H2 perm ht nt P2 e2 => ?_⟩
    · have : ((n : Int) - 1) = ((n - 1 : Nat) : Int) := by omega
      show [V.ref p, V.int ((n : Int) - 1)] ++ [] = _
      rw [this]
      rfl
    -- names
    have fz0 : z0 ≠ p ∧ z0 ≠ l := P00.off hz0
    have hz2 := e2.at (upd_same (H := H0) (a := z0) (o := HO.lst [.int 0])) (off2 fz0.1 fz0.2)
    refine ⟨t, rfl, ⟨_, .of ht⟩, fun D hD => ?_⟩
    refine lc_list (K := K) (a := t) (xs := ms.map nV) (fun i H' => H' D = some (.lst (((ms.take i).map (1 + ·)).map nV)) ∧ Ext [] H2 H') ⟨by simp; exact upd_same, .new hD⟩ (fun i H' _ ⟨_, e⟩ => .of (e.at ht (by simp))) ?_ ?_
    · rintro i v H' hv ⟨hX, e⟩
      obtain ⟨x, hx, rfl⟩ := map_at hv
      have hi := (List.getElem?_eq_some_iff.mp hx).1
      have ml := perm.length_eq
      rw [List.length_range] at ml
      refine ⟨rfl, yes ⟨_, rfl, _, _, rfl, rfl, _, hX, ?_, ?_, e.put hD⟩⟩
      · rw [List.length_map, List.length_map, List.length_take]
        exact small1000 (by omega)
      · rw [upd_same, List.take_add_one, hx, List.map_append, List.map_append]
        show some (HO.lst (_ ++ [V.int (1 + (x : Int))])) = some (HO.lst (_ ++ [nV (1 + x)]))
        rw [show (1 + (x : Int)) = ((1 + x : Nat) : Int) by omega]
    rintro H3 ⟨hD3, e3⟩
    rw [List.length_map, List.take_length] at hD3
    have NO := nums_of perm
    have nb : n - 1 + 1 = n := by omega
    rw [nb] at NO
    have ml : ms.length = n - 1 := by simpa using perm.length_eq
    refine ⟨z0, D, _, _, rfl, rfl, e3.at hz2 (by simp), hD3, ?_, fun nm hnm => ?_⟩
    · rw [List.length_map, List.length_map]
      exact Nat.le_of_lt (small1000 (by show 1 + ms.length ≤ 1000; omega))
    obtain ⟨N, eN⟩ : ∃ N, N = 0 :: ms.map (1 + ·) := ⟨_, rfl⟩
    have enm : ([V.int 0] ++ (ms.map (1 + ·)).map nV) = N.map nV := by rw [eN]; rfl
    rw [enm]
    rw [← eN] at NO
    have e4 : Ext [p, l] H (upd H3 nm (.lst (N.map nV))) := (((e0.trans e1.weak).trans e2).trans e3.weak).put2 hnm
    have P4 := (P2.ext0 e3).ext0 (Ext.new (o := HO.lst (N.map nV)) hnm)
    have hnm4 : upd H3 nm (.lst (N.map nV)) nm = some (.lst (N.map nV)) := upd_same
    have nmo := (P2.ext0 e3).off hnm
    clear hnm hD3 hD e3 ht e2 P2 hz2 e1 P1 nt
    generalize upd H3 nm (.lst (N.map nV)) = H4 at *
    have Nl := NO.len
    -- found = [()] * size
    refine ⟨Nat.zero_le _, fun t0 ht0 => ⟨(by show 1 ≤ sizeLine; decide), fun l0 hl0 => ⟨_, rfl, l0, _, _, rfl, rfl, upd_same, by omega, by omega, ?_, fun fd hfd => ?_⟩⟩⟩
    · show 1 * ((n : Int)).toNat ≤ sizeLine
      rw [Int.toNat_natCast, Nat.one_mul]
      exact Nat.le_of_lt (small1000 (by omega))
    have eL : (List.replicate ((n : Nat) : Int).toNat [V.ref t0]).flatten = List.replicate n (V.ref t0) := by
      rw [Int.toNat_natCast]
      clear q NO Nl nb perm ml e4 hn hn1 hn8 e0 er
      induction n with
      | zero => rfl
      | succ k ih => rw [List.replicate_succ, List.flatten_cons, ih, List.replicate_succ]; rfl
    rw [eL]
    have e5 : Ext [p, l] H (upd (upd (upd H4 t0 (.tup [])) l0 (.lst [.ref t0])) fd (.lst (List.replicate n (V.ref t0)))) := ((e4.put2 ht0).put2 hl0).put2 hfd
    have P5 := ((P4.ext0 (Ext.new (o := HO.tup []) ht0)).ext0 (Ext.new (o := HO.lst [V.ref t0]) hl0)).ext0 (Ext.new (o := HO.lst (List.replicate n (V.ref t0))) hfd)
    have hnm5 : upd (upd (upd H4 t0 (.tup [])) l0 (.lst [.ref t0])) fd (.lst (List.replicate n (V.ref t0))) nm = some (.lst (N.map nV)) := ((((Ext.new (L := []) ht0).trans (Ext.new hl0)).trans (Ext.new hfd))).at hnm4 (by simp)
    have hfd5 : upd (upd (upd H4 t0 (.tup [])) l0 (.lst [.ref t0])) fd (.lst (List.replicate n (V.ref t0))) fd = some (.lst (List.replicate n (V.ref t0))) := upd_same
    have ffd : H fd = none := ((e4.put2 ht0).put2 hl0).free2 hfd (off2 (P4.off (((Ext.new (L := []) ht0).trans (Ext.new hl0)).free hfd)).1 (P4.off (((Ext.new (L := []) ht0).trans (Ext.new hl0)).free hfd)).2)
    clear hfd hl0 ht0 hnm4 P4 e4
    generalize upd (upd (upd H4 t0 (.tup [])) l0 (.lst [.ref t0])) fd (.lst (List.replicate n (V.ref t0))) = H5 at *
    have nmfd : nm ≠ fd := fun z => by 
      rw [z, hfd5] at hnm5
      have z2 : List.replicate n (V.ref t0) = N.map nV := by injection (Option.some.inj hnm5)
      have z3 : (N.map nV)[0]? = some (nV 0) := at_map NO.zero
      rw [← z2, List.getElem?_replicate] at z3
      split at z3 <;> cases z3
    have F5 : FillR K H5 fd N [] := ⟨_, hfd5, by rw [List.length_replicate, Nl], fun s r x a _ => by simp at a⟩
    refine ⟨_, rfl, m, ls, rfl, e5.tup P0.lsts hm, ?_⟩
    refine for_it (walk_enumT (K := K) (a := m) (xs := ls)) (fun i σ H' => ∃ (y4 y5 : Option V), σ = [some (.ref p), some (.ref m), some (.int n), some (.ref nm), some (.ref fd), y4, y5, none, none, none, none] ∧ FillR K H' fd N ((b.take i).map (mvN N)) ∧ H' nm = some (.lst (N.map nV)) ∧ PoolAt H' p l ∧ Ext [p, l] H H') ⟨_, _, rfl, F5, hnm5, P5, e5⟩ (fun i σ H' _ ⟨_, _, _, _, _, _, e⟩ => e.tup P0.lsts hm) ?_ ?_
    · rintro i v σ H6 H' hi ⟨y4, y5, rfl, F6, hnm6, P6, e6⟩ ⟨T', x, y, rfl, hT, rfl, hx, hy⟩
      cases hx
      have hib : i < b.length := by omega
      have hy : ls[i]? = some y := hy
      obtain ⟨st, hst, a, ps, rfl, ha, hps⟩ := Paired.get' hls hy
      rw [mvs_lt hib] at hst
      obtain rfl := Option.some.inj hst
      have plen := Paired.len hps
      have five := (fb.ok hib).few
      have e7 : Ext [] H6 (upd H6 T' (.tup [.int i, .ref a])) := .new hT
      refine ⟨T', _, rfl, .of upd_same, rfl, _, _, rfl, _, _, rfl, rfl, ?_⟩
      have F7 := F6.ext e7 Lsts.nil (by simp)
      have hnm7 := e7.at hnm6 (by simp)
      have P7 := P6.ext0 e7
      have e6 := e6.trans e7.weak
      clear e7 hnm6 F6 P6 hT
      generalize upd H6 T' (.tup [.int i, .ref a]) = H7 at *
      refine ⟨_, rfl, a, rfl, ⟨_, e6.tup P0.lsts ha.sq⟩, fun D hD => ?_⟩
      refine lc_tup (K := K) (a := a) (xs := ps.map V.ref) (fun k H2 => ∃ qs : List Addr, H2 D = some (.lst (qs.map V.ref)) ∧ Paired (MvV K H2) qs (mvN N ((mvs b i).take k)) ∧ Ext [] H7 H2) ⟨[], upd_same, .nil, .new hD⟩ (fun k H2 _ ⟨_, _, _, e2⟩ => (e6.trans e2.weak).tup P0.lsts ha.sq) ?_ ?_
      · rintro k v H2 hv ⟨qs, hq, hqp, e2⟩
        obtain ⟨c, hc, rfl⟩ := map_at hv
        obtain ⟨q', hp, hcp⟩ := Paired.get' hps hc
        have hcp : SqT K H2 c [.int q'.1, .int q'.2] := (e6.trans e2.weak).tup P0.lsts hcp
        have hto := fb.to (List.mem_of_getElem? hp)
        refine ⟨c, _, rfl, hcp, rfl, _, _, rfl, _, _, rfl, rfl, rfl, yes ?_⟩
        refine ⟨_, rfl, _, rfl, _, rfl, nm, _, _, _, rfl, rfl, .of (e2.at hnm7 (by simp)), atI_nat (at_map (NO.at_ (Nat.lt_of_lt_of_le hto hn))), (by show 2 ≤ sizeLine; decide), fun t ht => ?_⟩
        have e3 : Ext [] H2 (upd H2 t (.tup [.int q'.1, nV (N.getD q'.2 0)])) := .new ht
        refine ⟨_, e3.at hq (by simp), ?_, qs ++ [t], by rw [upd_same, List.map_append]; rfl, ?_, (e2.trans e3).put hD⟩
        · rw [List.length_map, Paired.len hqp, mvN, List.length_map, List.length_take]
          exact small1000 (by omega)
        · rw [List.take_add_one, hp, mvN, List.map_append]
          refine Paired.snoc ?_ (Paired.imp hqp fun _ _ z => (z.ext0 e3).put (e3.at hq (by simp)))
          exact MvV.put (m := (q'.1, N.getD q'.2 0)) (.of upd_same) (e3.at hq (by simp))
      · rintro H2 ⟨qs, hq, hqp, e2⟩
        have ek : (mvs b i).take (ps.map V.ref).length = mvs b i := List.take_of_length_le (by rw [List.length_map, plen]; exact Nat.le_refl _)
        rw [ek] at hqp
        refine ⟨D, _, rfl, .of hq, fun t H3 ht hH3 => ?_⟩
        obtain ⟨o, od, rfl⟩ := hH3
        have e3 : Ext [] H2 (upd H2 t (.frz o (.tup (qs.map V.ref)))) := .new ht
        have e4 := e2.trans e3
        have F8 := F7.ext e4 Lsts.nil (by simp)
        have hnm8 := e4.at hnm7 (by simp)
        have P8 := P7.ext0 e4
        have e8 := e6.trans e4.weak
        have st8 : StV K (upd H2 t (.frz o (.tup (qs.map V.ref)))) (.ref t) (mvN N (mvs b i)) := ⟨t, qs, rfl, ⟨o, upd_same, od⟩, Paired.imp hqp fun _ _ z => z.ext0 e3⟩
        clear e4 e3 ht hq hqp e2 F7 hnm7 P7
        generalize upd H2 t (.frz o (.tup (qs.map V.ref))) = H8 at *
        obtain ⟨xs, hX, hxl, hxr⟩ := F8
        have hNi := NO.at_ (Nat.lt_of_lt_of_le hib hn)
        have hlt := NO.ltD (Nat.lt_of_lt_of_le hib hn)
        refine ⟨_, rfl, _, rfl, _, rfl, nm, _, _, _, rfl, rfl, .of hnm8, atI_nat (at_map hNi), fd, xs, _, _, rfl, rfl, hX, ixNat (by rw [hxl, Nl]; exact hlt), ?_⟩
        obtain ⟨fp, fl⟩ := P0.off ffd
        refine ⟨_, _, rfl, ?_, by rw [upd_ne nmfd]; exact hnm8, P8.put fp fl, e8.put' ffd⟩
        rw [List.take_add_one, mvs_lt hib, List.map_append]
        refine FillR.put hX hxl hxr NO.nd ?_ (by rw [Nl]; exact hlt) st8
        rw [List.length_map, List.length_take, Nat.min_eq_left (Nat.le_of_lt hib)]
        exact hNi
    · rintro σ H6 ⟨y4, y5, rfl, F6, hnm6, P6, e6⟩
      rw [llen, List.take_length] at F6
      have F6 : FillR K H6 fd N (b.map (mvN N) ++ []) := by rw [List.append_nil]; exact F6
      obtain ⟨fp, fl⟩ := P0.off ffd
      refine ⟨_, rfl, m, _, rfl, .inr (e6.tup P0.lsts hm), _, rfl, _, _, rfl, ⟨by omega, by omega, by omega, by omega⟩, for_range (lo := _) (n := _) (fun i σ H' => ∃ (R : List State) (y5 y6 y7 : Option V), σ = [some (.ref p), some (.ref m), some (.int n), some (.ref nm), some (.ref fd), y5, y6, y7, none, none, none] ∧ R.length = i ∧ (∀ s ∈ R, StOk n s) ∧ FillR K H' fd N (b.map (mvN N) ++ R) ∧ H' nm = some (.lst (N.map nV)) ∧ PoolAt H' p l ∧ Ext [p, l] H H') ⟨[], _, _, _, rfl, rfl, (fun s hs => nomatch hs), F6, hnm6, P6, e6⟩ ?_ ?_⟩
      · rintro i σ H6 hi ⟨R, y5, y6, y7, rfl, Rl, Rok, F6, hnm6, P6, e6⟩
        have hi : b.length + i < n := by omega
        have hSt : (ls.length : Int) + (i : Int) = ((b.length + i : Nat) : Int) := by omega
        refine ⟨_, rfl, _, rfl, p, l, 3, rfl, P6, by decide, by decide, fun r7 H7 r70 r71 P7 e7 => ⟨p, l, r7.toNat, ?_, P7, by omega, fun ms t H8 pw ml le99 ht nt P8 e8 => ?_⟩⟩
        · rw [Int.toNat_of_nonneg r70]
          rfl
        have F8 := (F6.ext e7 P6.lsts (off2 fp fl)).ext e8 P7.lsts (off2 fp fl)
        have hnm8 := e8 _ _ (off2 nmo.1 nmo.2) (e7 _ _ (off2 nmo.1 nmo.2) hnm6)
        have e8' := (e6.trans e7).trans e8
        have tpl := P7.off nt
        clear P6 P7 e6 e7 e8 F6 hnm6 nt
        refine ⟨_, rfl, t, rfl, ⟨_, .of ht⟩, fun D hD => ?_⟩
        have Dpl := P8.off hD
        refine lc_list (K := K) (a := t) (xs := ms.map nV) (fun k H2 => ∃ (qs : List Addr) (tl : State), H2 D = some (.lst (qs.map V.ref)) ∧ Paired (MvV K H2) qs tl ∧ tl.map (·.1) = ms.take k ∧ (∀ z ∈ tl, z.2 < n) ∧ H2 t = some (.lst (ms.map nV)) ∧ PoolAt H2 p l ∧ Ext [p, l] H8 H2)
          ⟨[], [], upd_same, .nil, rfl, (fun z hz => nomatch hz), (Ext.new (L := []) hD).at ht (by simp), P8.ext0 (.new hD), .new hD⟩ (fun k H2 _ ⟨_, _, _, _, _, _, h, _⟩ => .of h) ?_ ?_
        · rintro k v H2 hv ⟨qs, tl, hq, hqp, hmap, hto, ht2, P2, e2⟩
          obtain ⟨x, hx, rfl⟩ := map_at hv
          refine ⟨rfl, yes ?_⟩
          refine ⟨_, rfl, _, rfl, _, rfl, p, l, n, rfl, P2, by omega, by omega, fun r3 H3 r30 r31 P3 e3 => ⟨(by show 2 ≤ sizeLine; decide), fun t' ht' => ?_⟩⟩
          obtain ⟨u, rfl⟩ : ∃ u : Nat, r3 = (u : Int) := ⟨r3.toNat, by omega⟩
          have hq3 := e3 _ _ (off2 Dpl.1 Dpl.2) hq
          have e4 : Ext [] H3 (upd H3 t' (.tup [nV x, .int u])) := .new ht'
          have hq4 := e4.at hq3 (by simp)
          have tll : tl.length ≤ 6 := by
            have := congrArg List.length hmap
            rw [List.length_map, List.length_take] at this
            omega
          have tD : t ≠ D := fun z => by rw [← z, ht] at hD; cases hD
          refine ⟨_, hq4, by rw [List.length_map, Paired.len hqp]; exact small1000 (by omega), qs ++ [t'], tl ++ [(x, u)], by rw [upd_same, List.map_append]; rfl, ?_, ?_, fun z hz => ?_, ?_, (P3.ext0 e4).put Dpl.1 Dpl.2, ((e2.trans e3).trans e4.weak).put' hD⟩
          · refine Paired.snoc ?_ (Paired.imp hqp fun _ _ z => MvV.put (MvV.ext0 (e3.tup P2.lsts z) e4) hq4)
            exact MvV.put (m := (x, u)) (.of upd_same) hq4
          · rw [List.take_add_one, hx, List.map_append, hmap]
            rfl
          · rcases List.mem_append.mp hz with hz | hz
            · exact hto z hz
            · rw [List.mem_singleton.mp hz]
              show u < n
              omega
          · rw [upd_ne tD]
            exact e4.at (e3 _ _ (off2 tpl.1 tpl.2) ht2) (by simp)
        · rintro H2 ⟨qs, tl, hq, hqp, hmap, hto, ht2, P2, e2⟩
          rw [List.length_map, List.take_length] at hmap
          refine ⟨D, _, rfl, .of hq, fun t3 H3 ht3 hH3 => ?_⟩
          obtain ⟨o, od, rfl⟩ := hH3
          have e3 : Ext [] H2 (upd H2 t3 (.frz o (.tup (qs.map V.ref)))) := .new ht3
          have F9 := (F8.ext e2 P8.lsts (off2 fp fl)).ext e3 Lsts.nil (by simp)
          have hnm9 := e3.at (e2 _ _ (off2 nmo.1 nmo.2) hnm8) (by simp)
          have P9 := P2.ext0 e3
          have e9 := (e8'.trans e2).trans e3.weak
          have st9 : StV K (upd H2 t3 (.frz o (.tup (qs.map V.ref)))) (.ref t3) tl := ⟨t3, qs, rfl, ⟨o, upd_same, od⟩, Paired.imp hqp fun _ _ z => z.ext0 e3⟩
          have sok : StOk n tl := by
            refine ⟨?_, by rw [hmap]; exact pw, fun z hz => le99 _ (by rw [← hmap]; exact List.mem_map.mpr ⟨z, hz, rfl⟩), hto⟩
            have := congrArg List.length hmap
            rw [List.length_map] at this
            omega
          clear e3 ht3 hq hqp e2 F8 hnm8 P8 P2 e8' hD ht ht2
          generalize upd H2 t3 (.frz o (.tup (qs.map V.ref))) = H9 at *
          obtain ⟨xs, hX, hxl, hxr⟩ := F9
          have hNi := NO.at_ hi
          have hlt := NO.ltD hi
          refine ⟨_, rfl, _, rfl, _, rfl, nm, _, _, _, rfl, rfl, .of hnm9, (by rw [hSt]; exact atI_nat (at_map hNi)), fd, xs, _, _, rfl, rfl, hX, ixNat (by rw [hxl, Nl]; exact hlt), ?_⟩
          refine ⟨R ++ [tl], _, _, _, rfl, by rw [List.length_append, Rl]; rfl, fun s hs => ?_, ?_, by rw [upd_ne nmfd]; exact hnm9, P9.put fp fl, e9.put' ffd⟩
          · rcases List.mem_append.mp hs with hs | hs
            · exact Rok s hs
            · rw [List.mem_singleton.mp hs]
              exact sok
          · rw [← List.append_assoc]
            refine FillR.put hX hxl hxr NO.nd ?_ (by rw [Nl]; exact hlt) st9
            rw [List.length_append, List.length_map, Rl]
            exact hNi
      · rintro σ H6 ⟨R, y5, y6, y7, rfl, Rl, Rok, ⟨xs, hX, hxl, hxr⟩, hnm6, P6, e6⟩
        have Rl : b.length + R.length = n := by omega
        refine ⟨_, rfl, fd, xs, rfl, .of hX, fun t H7 ht hH7 => ?_⟩
        obtain ⟨o, od, rfl⟩ := hH7
        have e7 : Ext [] H6 (upd H6 t (.frz o (.tup xs))) := .new ht
        have hp := FillR.done hxl hxr NO (by rw [List.length_append, List.length_map]; exact Rl)
        have bk : BkV K (upd H6 t (.frz o (.tup xs))) (.ref t) (putB b N R) := ⟨t, xs, rfl, .inl (.inr ⟨o, upd_same⟩), Paired.imp hp fun _ _ z => z.ext0 e7⟩
        have hnm7 := e7.at hnm6 (by simp)
        have P7 := P6.ext0 e7
        have e6 := e6.trans e7.weak
        clear e7 ht hp hX hnm6 P6
        generalize upd H6 t (.frz o (.tup xs)) = H7 at *
        refine ⟨_, rfl, _, rfl, m, _, rfl, .inr (e6.tup P0.lsts hm), _, rfl, nm, _, rfl, .of hnm7, fun s1 hs1 => ?_⟩
        have ec : cutV (N.map nV) (some (ls.length : Int)) none = (N.drop b.length).map nV := by
          rw [cutDropN, llen, List.map_drop]
        rw [ec]
        have en : ∀ l : List Nat, l.map nV = (l.map fun n : Nat => (n : Int)).map V.int := fun l => by rw [List.map_map]; rfl
        refine ⟨s1, (N.drop b.length).map fun n : Nat => (n : Int), rfl, .of (by rw [upd_same, en]), ?_, fun ns' s2 perm' rise hs2 => ⟨(by show 2 ≤ sizeLine; decide), fun r hr' => ?_⟩⟩
        · rw [List.length_map, List.length_drop]
          omega
        obtain ⟨S, eS, Sp, Sw⟩ := sorted_nats (List.Nodup.sublist (List.drop_sublist _ _) NO.nd) perm' rise
        rw [eS] at hr' ⊢
        have e8 : Ext [] H7 (upd (upd (upd H7 s1 (.lst ((N.drop b.length).map nV))) s2 (.lst (S.map nV))) r (.lst [.ref t, .ref s2])) := (((Ext.new (L := []) hs1).trans (Ext.new hs2)).trans (Ext.new hr'))
        have ns2 : s2 ≠ r := fun z => by rw [z, upd_same] at hr'; cases hr'
        refine q N S R r s2 (.ref t) _ ⟨by rw [Rl]; exact NO, fun s hs => by rw [Rl]; exact Rok s hs⟩ (by omega) Sp Sw upd_same (bk.ext0 e8) (by rw [upd_ne ns2, upd_same]) (P7.ext0 e8) (e6.trans e8.weak)
end
end Nv
set_option Elab.async false
set_option linter.all false
set_option maxRecDepth 100000
namespace Nv
open PySem PySem.Spec PyProof.Rows L2
section
variable {P : Program} {w : World} {K : PySem.W.Frag} {mg : Str → Option Value} {base : Heap}
/-! ### the law's own going from row to row -/
theorem put_range {rows : List State} : putAt (List.range rows.length) rows = rows := by
  refine List.ext_getElem? fun k => ?_
  unfold putAt
  rw [List.getElem?_map, List.length_range]
  by_cases hk : k < rows.length
  · rw [List.getElem?_range hk, List.getElem?_eq_getElem hk]
    show some (rows.getD ((List.range rows.length).idxOf k) []) = _
    rw [idx_of List.nodup_range (List.getElem?_range hk), List.getD_eq_getElem?_getD, List.getElem?_eq_getElem hk]
    rfl
  · rw [List.getElem?_eq_none (by rw [List.length_range]; omega), List.getElem?_eq_none (by omega)]
    rfl
theorem nums_range {n : Nat} (h : 1 ≤ n) : NumsOk (List.range n) n := ⟨.refl _, by rw [List.getElem?_range h]⟩
theorem pre_at {F G : List Nat} (h : F <+: G) {i x : Nat} (e : F[i]? = some x) : G[i]? = some x := by
  obtain ⟨R, rfl⟩ := h
  rw [List.getElem?_append_left (List.getElem?_eq_some_iff.mp e).1]
  exact e
theorem pre_drop {F G : List Nat} (h : F <+: G) {s : Nat} : (G ++ [s]).drop F.length = G.drop F.length ++ [s] := by
  rw [List.drop_append_of_le_length h.length_le]
theorem StV.unlock {K : PySem.W.Frag} {H : Hp} {nm : Addr} {od : Obj} {kvs : List (Key × V)} (h : H nm = some (.frz od (.dK kvs))) {v : V} {r : State} (s : StV K H v r) : StV K (upd H nm (.dK kvs)) v r := by
  obtain ⟨a, ps, rfl, ⟨o, h1, hd⟩, h2⟩ := s
  have ne : a ≠ nm := fun z => by rw [z, h] at h1; cases h1
  refine ⟨a, ps, rfl, ⟨o, by rw [upd_ne ne]; exact h1, hd⟩, Paired.imp h2 fun x y z => ?_⟩
  rcases z with (z | ⟨ob, z⟩) | z
  · exact .inl (.inl (by rw [upd_ne (fun w => by rw [w, h] at z; cases z)]; exact z))
  · exact .inl (.inr ⟨ob, by rw [upd_ne (fun w => by rw [w, h] at z; cases z)]; exact z⟩)
  · exact .inr z
theorem FillR.unlock {K : PySem.W.Frag} {H : Hp} {nm fd : Addr} {od : Obj} {kvs : List (Key × V)} {N : List Nat} {rows : List State} (f : FillR K H fd N rows) (h : H nm = some (.frz od (.dK kvs))) : FillR K (upd H nm (.dK kvs)) fd N rows := by
  obtain ⟨xs, h1, h2, h3⟩ := f
  have ne : fd ≠ nm := fun z => by rw [z, h] at h1; cases h1
  exact ⟨xs, by rw [upd_ne ne]; exact h1, h2, fun s r x a b => by
    obtain ⟨v, c, d⟩ := h3 s r x a b
    exact ⟨v, c, d.unlock h⟩⟩
theorem sc_law_by_rows : FnScope ["book", "names", "level", "turn", "ahead", "state", "message", "to", "found"] ["book"] (defScope s_law_by_rows) := ⟨rfl, rfl, rfl, by decide +kernel, rfl, by decide +kernel, by decide +kernel⟩
def sp_law_by_rows (K : PySem.W.Frag) : Sp := fun vs H Q _ => ∃ (v : V) (b : Book), vs = [v] ∧ BkV K H v b ∧ FormB b ∧ ∀ (v' : V) (H' : Hp), BkV K H' v' (rename b (ordB b)) → Ext [] H H' → Q v' H'
theorem ok_law_by_rows (T : Tx K mg) : FnOk P w K mg base CX0 3 T.law_by_rows.f T.law_by_rows.fd ["book"] (sp_law_by_rows K) := by
  refine T.law_by_rows.F.ok sc_law_by_rows (fun vs H Q E h => ?_) (fun cdv A outer s H vs Q E hr h => ?_)
  · obtain ⟨v, b, rfl, _⟩ := h; rfl
  · obtain ⟨v, b, rfl, hb, fb, q⟩ := h
    obtain ⟨m, ls, rfl, hm, hls⟩ := id hb
    have h8 := fb.eight
    have h1 := fb.one
    have llen : ls.length = b.length := Paired.len hls
    refine ⟨_, (pss_cons (ps_asg (pe_tup (pa_cons (pe_disp (pps_cons pe_int pe_int pps_nil) (by rfl) (by rfl) (fun z => by cases z) (by decide)) (pa_cons (pe_lst (pa_cons pe_int pa_nil)) pa_nil))) (pg_tup rfl (pgs_cons (pg_name (i := 1) sc_law_by_rows.nd rfl (.inr rfl)) (pgs_cons (pg_name (i := 2) sc_law_by_rows.nd rfl (.inl rfl)) pgs_nil))))
      (pss_cons (ps_for PassesOwn.never rfl (pi_range1 (by rfl) T.n_range (pa_cons (pe_callB call_len_seq (by rfl) T.n_len PySem.boot_len (pa_cons (pv 0) pa_nil)) pa_nil)) (pg_name (i := 3) sc_law_by_rows.nd rfl (.inl rfl))
        (pss_cons (ps_set (i := 4) sc_law_by_rows.nd rfl (.inl rfl) (pe_lst pa_nil))
        (pss_cons (ps_for PassesOwn.never rfl (pi_list (pv 2)) (pg_name (i := 5) sc_law_by_rows.nd rfl (.inl rfl))
          (pss_one (ps_for PassesOwn.never rfl (pi_tup (pe_ix ix_tup (pv 0) (pv 5) (fun _ _ => rfl))) (pg_tup rfl (pgs_cons (pg_name (i := 6) sc_law_by_rows.nd rfl (.inl rfl)) (pgs_cons (pg_name (i := 7) sc_law_by_rows.nd rfl (.inl rfl)) pgs_nil)))
            (pss_one (ps_if (pt_cmp (pc_dnotin (hu_of hr) (pv 7) (pv 1)))
              (pss_cons (ps_dput (hu_of hr) (pv 1) (pv 7) (pe_callB call_lenD (by rfl) T.n_len PySem.boot_len (pa_cons (pv 1) pa_nil)) rfl)
              (pss_one (ps_expr (pe_bm PySem.F.plainAttrs_list PySem.F.slot_list_append PySem.F.type_list_append mt_append (pv 4) (pa_cons (pv 7) pa_nil)))))
              pss_nil)))))
        (pss_one (ps_set (i := 2) sc_law_by_rows.nd rfl (.inl rfl) (pv 4))))))
      (pss_cons (ps_set (i := 8) sc_law_by_rows.nd rfl (.inl rfl) (pe_op op_rep (pe_lst (pa_cons (pe_tup pa_nil) pa_nil)) (pe_callB call_lenD (by rfl) T.n_len PySem.boot_len (pa_cons (pv 1) pa_nil))))
      (pss_cons (ps_lock (ps_for PassesOwn.never rfl (pi_keys (pv 1)) (pg_name (i := 5) sc_law_by_rows.nd rfl (.inl rfl))
        (pss_one (ps_asg (pe_callTy call_tupZ (by rfl) T.n_tuple (by decide +kernel) (pa_cons (pe_lc (own := [("message", 6), ("to", 7)]) rfl sc_law_by_rows.nd (pi_tup (pe_ix ix_tup (pv 0) (pv 5) (fun _ _ => rfl))) (blkOk_by (own := [("message", 6), ("to", 7)]) (N := ["book", "names", "level", "turn", "ahead", "state", "message", "to", "found"]) (sc := defScope s_law_by_rows) (by decide +kernel)) (fun _ _ _ _ _ => (pg_tupK (n := 2) K rfl (pgs_cons (pg_name (i := 6) sc_law_by_rows.nd rfl (.inl rfl)) (pgs_cons (pg_name (i := 7) sc_law_by_rows.nd rfl (.inl rfl)) pgs_nil)))) (fun _ _ _ _ _ => pts_nil) (fun _ _ _ _ _ => (pe_tup (pa_cons (pv 6) (pa_cons (pe_dget (hu_of hr) (pv 1) (pv 7) (fun _ _ => rfl)) pa_nil))))) pa_nil)) (pg_sub (pv 8) (pe_dget (hu_of hr) (pv 1) (pv 5) (fun _ _ => rfl)) set_list)))))
      (pss_one (ps_ret (pe_callTy call_tupZ (by rfl) T.n_tuple (by decide +kernel) (pa_cons (pv 8) pa_nil)))))))), ?_⟩
    -- names, level = {0: 0}, [0]
    refine fun nm hnm => ⟨upd_same, [(kN 0, .int 0)], rfl, (by show 1 ≤ 15; decide), ⟨(by show 1 ≤ sizeLine; decide), fun lv0 hlv => ⟨(by show 2 ≤ sizeLine; decide), fun tp htp => ?_⟩⟩⟩
    have e1 : Ext [] H (upd (upd (upd (upd H nm (.dK [])) nm (.dK (mergeK [] [(kN 0, .int 0)]))) lv0 (.lst [.int 0])) tp (.tup [.ref nm, .ref lv0])) := ((((Ext.new (L := []) hnm).put hnm).put2 hlv).put2 htp)
    have hnm0 : upd (upd H nm (.dK [])) nm (.dK (mergeK [] [(kN 0, .int 0)])) nm = some (.dK (placesK [0])) := upd_same
    have hnm1 : upd (upd (upd (upd H nm (.dK [])) nm (.dK (mergeK [] [(kN 0, .int 0)]))) lv0 (.lst [.int 0])) tp (.tup [.ref nm, .ref lv0]) nm = some (.dK (placesK [0])) := ((Ext.new (L := []) hlv).trans (Ext.new htp)).at hnm0 (by simp)
    have hlv1 : upd (upd (upd (upd H nm (.dK [])) nm (.dK (mergeK [] [(kN 0, .int 0)]))) lv0 (.lst [.int 0])) tp (.tup [.ref nm, .ref lv0]) lv0 = some (.lst ([0].map nV)) := (Ext.new (L := []) htp).at upd_same (by simp)
    refine ⟨tp, _, rfl, .of upd_same, rfl, _, _, rfl, _, _, rfl, rfl, ?_⟩
    clear htp hlv hnm0
    generalize upd (upd (upd (upd H nm (.dK [])) nm (.dK (mergeK [] [(kN 0, .int 0)]))) lv0 (.lst [.int 0])) tp (.tup [.ref nm, .ref lv0]) = H1 at *
    -- the levels
    refine ⟨_, rfl, m, _, rfl, .inr (e1.tup Lsts.nil hm), _, rfl, by omega, by omega, for_range (lo := 0) (n := _) (fun i σ H' => ∃ (F : List Nat) (j : Nat) (lv : Addr) (y3 y4 y5 y6 y7 : Option V), σ = [some (.ref m), some (.ref nm), some (.ref lv), y3, y4, y5, y6, y7, none] ∧ MetIO b F j ∧ H' nm = some (.dK (placesK F)) ∧ H' lv = some (.lst ((F.drop j).map nV)) ∧ (i ≤ j ∨ F.length ≤ j) ∧ Ext [] H H')
      ⟨[0], 0, lv0, _, _, _, _, _, rfl, .first h1, hnm1, hlv1, .inl (Nat.le_refl _), e1⟩ ?_ ?_⟩
    · rintro i σ H2 hi ⟨F, j, lv, y3, y4, y5, y6, y7, rfl, mi, hN, hL, hor, e⟩
      have Fle : F.length ≤ b.length := nodup_le mi.nd mi.lt
      have jle := mi.le
      refine ⟨Nat.zero_le _, fun ah hah => ?_⟩
      have nah : nm ≠ ah := ne_of_none hN hah
      have lah : lv ≠ ah := ne_of_none hL hah
      have nlv : nm ≠ lv := fun z => by rw [z, hL] at hN; cases hN
      have e2 := e.put2 (o := .lst []) hah
      have hN2 : upd H2 ah (.lst []) nm = _ := (upd_ne nah).trans hN
      have hL2 : upd H2 ah (.lst []) lv = _ := (upd_ne lah).trans hL
      have fah : H ah = none := e.free hah
      have flv : H lv = none ∨ True := .inr trivial
      have hA2 : upd H2 ah (.lst []) ah = some (.lst []) := upd_same
      clear hah e hN hL
      generalize upd H2 ah (.lst []) = H3 at *
      refine ⟨_, rfl, lv, rfl, ⟨_, .of hL2⟩, ?_⟩
      refine for_list (K := K) (a := lv) (xs := (F.drop j).map nV) (fun k σ H' => ∃ (F' : List Nat) (y5 y6 y7 : Option V), σ = [some (.ref m), some (.ref nm), some (.ref lv), some (.int (0 + i)), some (.ref ah), y5, y6, y7, none] ∧ MetIO b F' (j + k) ∧ F <+: F' ∧ H' nm = some (.dK (placesK F')) ∧ H' ah = some (.lst ((F'.drop F.length).map nV)) ∧ H' lv = some (.lst ((F.drop j).map nV)) ∧ Ext [] H H')
        ⟨F, _, _, _, rfl, mi, List.prefix_refl _, hN2, by rw [hA2, List.drop_length]; rfl, hL2, e2⟩ (fun k σ H' _ ⟨_, _, _, _, _, _, _, _, _, h, _⟩ => .of h) ?_ ?_
      · rintro k v σ H' hv ⟨F', y5, y6, y7, rfl, mi', pre, hN', hA', hL', e'⟩
        obtain ⟨x, hx, rfl⟩ := map_at hv
        rw [List.getElem?_drop] at hx
        have hx' := pre_at pre hx
        have gx : (stB b (j + k))[j + k]? = some x := by rw [← mi'.eq]; exact hx'
        have hxb : x < b.length := mi'.lt x (List.mem_of_getElem? hx')
        obtain ⟨u, hu, c, ps, rfl, hc, hps⟩ := Paired.get hls (mvs_lt hxb)
        have plen := Paired.len hps
        refine ⟨_, rfl, _, rfl, m, _, _, _, rfl, rfl, e'.tup Lsts.nil hm, atI_nat hu, c, rfl, ⟨_, e'.tup Lsts.nil hc.sq⟩, ?_⟩
        refine for_tup (K := K) (a := c) (xs := ps.map V.ref) (fun k2 σ H' => ∃ (F2 : List Nat) (y6 y7 : Option V), σ = [some (.ref m), some (.ref nm), some (.ref lv), some (.int (0 + i)), some (.ref ah), some (nV x), y6, y7, none] ∧ MetWO b F2 (j + k) x k2 ∧ F <+: F2 ∧ H' nm = some (.dK (placesK F2)) ∧ H' ah = some (.lst ((F2.drop F.length).map nV)) ∧ H' lv = some (.lst ((F.drop j).map nV)) ∧ Ext [] H H')
          ⟨F', _, _, rfl, mi'.begin hx', pre, hN', hA', hL', e'⟩ (fun k2 σ H' _ ⟨_, _, _, _, _, _, _, _, _, e⟩ => e.tup Lsts.nil hc.sq) ?_ ?_
        · rintro k2 v σ H5 hv ⟨F2, y6, y7, rfl, mw, pre2, hN5, hA5, hL5, e5⟩
          obtain ⟨g, hg, rfl⟩ := map_at hv
          obtain ⟨p, hp, hcp⟩ := Paired.get' hps hg
          have hcp := hcp.ext0 e5
          have F2le : F2.length ≤ b.length := nodup_le mw.nd mw.lt
          have pb := fb.to (List.mem_of_getElem? hp)
          refine ⟨g, _, rfl, hcp, rfl, _, _, rfl, _, _, rfl, rfl, ?_⟩
          refine ⟨_, rfl, _, rfl, nm, _, rfl, DGet.k (k := kN p.2) hN5, _, rfl, ?_⟩
          rw [valV_key placesK_keys]
          by_cases hin : p.2 ∈ F2
          · rw [decide_eq_true hin]
            exact iteF ⟨F2, _, _, rfl, mw.skip hp hin, pre2, hN5, hA5, hL5, e5⟩
          · rw [decide_eq_false hin]
            refine iteT ⟨_, rfl, nm, _, rfl, hN5, _, rfl, _, rfl, nm, _, rfl, DPut.k (k := kN p.2) hN5 (by rw [placesK_len]; exact small1000 (by omega)), ?_⟩
            rw [placesK_len, show V.int ((F2.length : Nat) : Int) = nV F2.length from rfl, placesK_put hin]
            have hA6 : upd H5 nm (.dK (placesK (F2 ++ [p.2]))) ah = _ := (upd_ne nah.symm).trans hA5
            refine ⟨_, rfl, .inl ⟨rfl, _, .of hA6⟩, _, rfl, ah, _, _, rfl, rfl, hA6, by rw [List.length_map, List.length_drop]; exact small1000 (by omega), ?_⟩
            refine ⟨F2 ++ [p.2], _, _, rfl, mw.push hp hin pb, pre2.trans (List.prefix_append _ _), by rw [upd_ne nah, upd_same], ?_, by rw [upd_ne lah, upd_ne nlv.symm]; exact hL5, (e5.put' hnm).put' fah⟩
            rw [upd_same, pre_drop pre2, List.map_append]
            rfl
        · rintro σ H5 ⟨F2, y6, y7, rfl, mw, pre2, hN5, hA5, hL5, e5⟩
          exact ⟨F2, _, _, _, rfl, mw.done gx (by rw [List.length_map, plen]; exact Nat.le_refl _), pre2, hN5, hA5, hL5, e5⟩
      · rintro σ H5 ⟨F', y5, y6, y7, rfl, mi', pre, hN', hA', hL', e'⟩
        have ej : j + ((F.drop j).map nV).length = F.length := by rw [List.length_map, List.length_drop]; omega
        rw [ej] at mi'
        refine ⟨_, rfl, F', F.length, ah, _, _, _, _, _, rfl, mi', hN', hA', ?_, e'⟩
        by_cases hj : j < F.length
        · rcases hor with h | h
          · exact .inl (by omega)
          · omega
        · have e1 : j = F.length := by omega
          refine .inr ?_
          have : F' = F := by rw [mi'.eq, ← e1, ← mi.eq]
          rw [this]
          exact Nat.le_refl _
    · rintro σ H2 ⟨F, j, lv, y3, y4, y5, y6, y7, rfl, mi, hN, hL, hor, e⟩
      have Fle : F.length ≤ b.length := nodup_le mi.nd mi.lt
      have jle := mi.le
      rw [Int.toNat_natCast, llen] at hor
      have mo : MetO b F := mi.met (by omega)
      have Fpos : 1 ≤ F.length := (List.getElem?_eq_some_iff.mp mo.zero).1
      clear hL hor mi
      -- found = [()] * len(names)
      refine ⟨Nat.zero_le _, fun t0 ht0 => ⟨(by show 1 ≤ sizeLine; decide), fun l0 hl0 => ⟨_, rfl, nm, _, rfl, ((Ext.new (L := []) ht0).trans (Ext.new hl0)).at hN (by simp), l0, _, _, rfl, rfl, upd_same, by rw [placesK_len]; omega, by rw [placesK_len]; omega, ?_, fun fd hfd => ?_⟩⟩⟩
      · show 1 * (((placesK F).length : Nat) : Int).toNat ≤ sizeLine
        rw [Int.toNat_natCast, Nat.one_mul, placesK_len]
        exact Nat.le_of_lt (small1000 (by omega))
      have eL : (List.replicate (((placesK F).length : Nat) : Int).toNat [V.ref t0]).flatten = List.replicate F.length (V.ref t0) := by
        rw [Int.toNat_natCast, placesK_len]
        clear hN Fle jle mo Fpos
        induction F.length with
        | zero => rfl
        | succ k ih => rw [List.replicate_succ, List.flatten_cons, ih, List.replicate_succ]; rfl
      rw [eL]
      have e5 : Ext [] H (upd (upd (upd H2 t0 (.tup [])) l0 (.lst [.ref t0])) fd (.lst (List.replicate F.length (V.ref t0)))) := ((e.put2 ht0).put2 hl0).put2 hfd
      have hN5 : upd (upd (upd H2 t0 (.tup [])) l0 (.lst [.ref t0])) fd (.lst (List.replicate F.length (V.ref t0))) nm = some (.dK (placesK F)) := ((((Ext.new (L := []) ht0).trans (Ext.new hl0)).trans (Ext.new hfd))).at hN (by simp)
      have hfd5 : upd (upd (upd H2 t0 (.tup [])) l0 (.lst [.ref t0])) fd (.lst (List.replicate F.length (V.ref t0))) fd = some (.lst (List.replicate F.length (V.ref t0))) := upd_same
      have ffd : H fd = none := ((e.put2 ht0).put2 hl0).free hfd
      clear hfd hl0 ht0 hN e
      generalize upd (upd (upd H2 t0 (.tup [])) l0 (.lst [.ref t0])) fd (.lst (List.replicate F.length (V.ref t0))) = H5 at *
      have nfd : nm ≠ fd := fun z => by rw [z, hfd5] at hN5; cases hN5
      have NO := nums_range Fpos
      have F5 : FillR K H5 fd (List.range F.length) [] := ⟨_, hfd5, by rw [List.length_replicate, List.length_range], fun s r x a _ => by simp at a⟩
      refine ⟨nm, _, hN5, trivial, fun od => ?_⟩
      have wN : Ext [nm] H5 (upd H5 nm (.frz od (.dK (placesK F)))) := .wr (by simp)
      have lN : Lsts [nm] H5 := one_dk hN5
      have F6 := F5.ext wN lN (by simp; exact nfd.symm)
      have e6 : Ext [] H (upd H5 nm (.frz od (.dK (placesK F)))) := e5.put' hnm
      have hN6 : upd H5 nm (.frz od (.dK (placesK F))) nm = some (.frz od (.dK (placesK F))) := upd_same
      clear F5 hfd5 e5 wN
      generalize hG6 : upd H5 nm (.frz od (.dK (placesK F))) = H6 at *
      refine ⟨_, rfl, nm, od, rfl, .inl ⟨placesK F, hN6, ?_⟩⟩
      refine for_it (walk_keys (d := nm) (o := od) (kvs := placesK F)) (fun i σ H' => ∃ (y5 y6 y7 : Option V), σ = [some (.ref m), some (.ref nm), some (.ref lv), y3, y4, y5, y6, y7, some (.ref fd)] ∧ FillR K H' fd (List.range F.length) ((rename b F).take i) ∧ H' nm = some (.frz od (.dK (placesK F))) ∧ Ext [] H H') ⟨_, _, _, rfl, F6, hN6, e6⟩ (fun i σ H' _ ⟨_, _, _, _, _, h, _⟩ => h) ?_ ?_
      · rintro i x σ H0' H7 hi ⟨y5, y6, y7, rfl, F7, hN7, e7⟩ ⟨rfl, kk, vv, hk, rfl⟩
        rw [placesK_len] at hi
        have hFi : F[i]? = some F[i] := List.getElem?_eq_getElem hi
        generalize F[i] = x at hFi
        have hk2 : (kk, vv) = (kN x, nV i) := by
          unfold placesK at hk
          rw [List.getElem?_map, List.getElem?_zipIdx, hFi] at hk
          have := Option.some.inj hk
          rw [Nat.zero_add] at this
          exact this.symm
        cases hk2
        have hxF := List.mem_of_getElem? hFi
        have hxb : x < b.length := mo.lt x hxF
        obtain ⟨u, hu, a, ps, rfl, ha, hps⟩ := Paired.get hls (mvs_lt hxb)
        have plen := Paired.len hps
        have five := (fb.ok hxb).few
        have dget : ∀ {H' : Hp} {s : Nat}, H' nm = some (.frz od (.dK (placesK F))) → s ∈ F → DGet H' nm (.int s) (some (nV (F.idxOf s))) := fun {H' s} h hs => .inl ⟨placesK F, kN s, .inr ⟨od, h⟩, rfl, (placesK_val mo.nd hs).symm⟩
        refine ⟨_, rfl, _, rfl, m, _, _, _, rfl, rfl, e7.tup Lsts.nil hm, atI_nat hu, a, rfl, ⟨_, e7.tup Lsts.nil ha.sq⟩, fun D hD => ?_⟩
        refine lc_tup (K := K) (a := a) (xs := ps.map V.ref) (fun k H2 => ∃ qs : List Addr, H2 D = some (.lst (qs.map V.ref)) ∧ Paired (MvV K H2) qs (((mvs b x).take k).map fun p => (p.1, F.idxOf p.2)) ∧ Ext [] H7 H2) ⟨[], upd_same, .nil, .new hD⟩ (fun k H2 _ ⟨_, _, _, e2⟩ => (e7.trans e2).tup Lsts.nil ha.sq) ?_ ?_
        · rintro k v H2 hv ⟨qs, hq, hqp, e2⟩
          obtain ⟨c, hc, rfl⟩ := map_at hv
          obtain ⟨p, hp, hcp⟩ := Paired.get' hps hc
          have hcp := hcp.ext0 (e7.trans e2)
          have pin : p.2 ∈ F := mo.cl x hxF p (List.mem_of_getElem? hp)
          refine ⟨c, _, rfl, hcp, rfl, _, _, rfl, _, _, rfl, rfl, rfl, yes ?_⟩
          refine ⟨_, rfl, _, rfl, _, rfl, nm, _, rfl, dget (e2.at hN7 (by simp)) pin, (by show 2 ≤ sizeLine; decide), fun t ht => ?_⟩
          have e3 : Ext [] H2 (upd H2 t (.tup [.int p.1, .int (F.idxOf p.2 : Nat)])) := .new ht
          refine ⟨_, e3.at hq (by simp), ?_, qs ++ [t], by rw [upd_same, List.map_append]; rfl, ?_, (e2.trans e3).put hD⟩
          · rw [List.length_map, Paired.len hqp, List.length_map, List.length_take]
            exact small1000 (by omega)
          · rw [List.take_add_one, hp, List.map_append]
            refine Paired.snoc ?_ (Paired.imp hqp fun _ _ z => (z.ext0 e3).put (e3.at hq (by simp)))
            exact MvV.put (m := (p.1, F.idxOf p.2)) (.of upd_same) (e3.at hq (by simp))
        · rintro H2 ⟨qs, hq, hqp, e2⟩
          have ek : (mvs b x).take (ps.map V.ref).length = mvs b x := List.take_of_length_le (by rw [List.length_map, plen]; exact Nat.le_refl _)
          rw [ek] at hqp
          refine ⟨D, _, rfl, .of hq, fun t H3 ht hH3 => ?_⟩
          obtain ⟨o, od2, rfl⟩ := hH3
          have e3 : Ext [] H2 (upd H2 t (.frz o (.tup (qs.map V.ref)))) := .new ht
          have e4 := e2.trans e3
          have F8 := F7.ext e4 Lsts.nil (by simp)
          have hN8 := e4.at hN7 (by simp)
          have e8 := e7.trans e4
          have st8 : StV K (upd H2 t (.frz o (.tup (qs.map V.ref)))) (.ref t) ((mvs b x).map fun p => (p.1, F.idxOf p.2)) := ⟨t, qs, rfl, ⟨o, upd_same, od2⟩, Paired.imp hqp fun _ _ z => z.ext0 e3⟩
          clear e4 e3 ht hq hqp e2 F7 hN7
          generalize upd H2 t (.frz o (.tup (qs.map V.ref))) = H8 at *
          obtain ⟨xs, hX, hxl, hxr⟩ := F8
          rw [List.length_range] at hxl
          have hix : F.idxOf x = i := idx_of mo.nd hFi
          have dg := dget hN8 hxF
          rw [hix] at dg
          refine ⟨_, rfl, _, rfl, _, rfl, nm, _, rfl, dg, fd, xs, _, _, rfl, rfl, hX, ixNat (by rw [hxl]; exact hi), ?_⟩
          refine ⟨_, _, _, rfl, ?_, by rw [upd_ne nfd]; exact hN8, e8.put' ffd⟩
          have hr' : (rename b F)[i]? = some ((mvs b x).map fun p => (p.1, F.idxOf p.2)) := by
            unfold rename
            rw [List.getElem?_map, hFi]
            rfl
          rw [List.take_add_one, hr']
          have hri : (List.range F.length)[((rename b F).take i).length]? = some i := by
            rw [List.length_take, rename_len, Nat.min_eq_left (Nat.le_of_lt hi), List.getElem?_range hi]
          exact FillR.put hX (by rw [hxl, List.length_range]) hxr List.nodup_range hri (by rw [List.length_range]; exact hi) st8
      · rintro σ H7 ⟨y5, y6, y7, rfl, F7, hN7, e7⟩
        rw [placesK_len, List.take_of_length_le (by rw [rename_len]; exact Nat.le_refl _)] at F7
        refine ⟨hN7, ?_⟩
        have F8 := F7.unlock hN7
        have e8 : Ext [] H (upd H7 nm (.dK (placesK F))) := e7.put' hnm
        clear F7 hN7 e7
        generalize upd H7 nm (.dK (placesK F)) = H8 at *
        obtain ⟨xs, hX, hxl, hxr⟩ := F8
        refine ⟨_, rfl, fd, xs, rfl, .of hX, fun t H9 ht hH9 => ?_⟩
        obtain ⟨o, od, rfl⟩ := hH9
        have e9 : Ext [] H8 (upd H8 t (.frz o (.tup xs))) := .new ht
        have hp := FillR.done hxl hxr NO (rename_len)
        have er : putAt (List.range F.length) (rename b F) = rename b F := by
          have := put_range (rows := rename b F)
          rwa [rename_len] at this
        rw [er, mo.eq] at hp
        exact q _ _ ⟨t, xs, rfl, .inl (.inr ⟨o, upd_same⟩), Paired.imp hp fun _ _ z => z.ext0 e9⟩ (e8.trans e9)
end
end Nv
set_option Elab.async false
set_option linter.all false
set_option maxRecDepth 100000
namespace Nv
open PySem PySem.Spec PyProof.Rows L2
section
variable {P : Program} {w : World} {K : PySem.W.Frag} {mg : Str → Option Value} {base : Heap}
/-! ### what stays where lambdas are made -/
theorem Ext.tabs {L : List Addr} {H H' : Hp} {P : Addr} {q : Str} (e : Ext L H H') (hL : ∀ x ∈ L, ∀ o, H x = some o → (∃ xs, o = .lst xs)) (t : LamX.Tabs [(P, q)] H) : LamX.Tabs [(P, q)] H' := fun z hz => by
  rw [List.mem_singleton.mp hz]
  obtain ⟨ps, h1, h2, h3⟩ := t (P, q) (List.mem_singleton.mpr rfl)
  refine ⟨ps, e _ _ (fun z => ?_) h1, h2, fun pos cv hc => ?_⟩
  · obtain ⟨xs, e⟩ := hL _ z _ h1
    cases e
  · obtain ⟨c, e1, e2⟩ := h3 pos cv hc
    refine ⟨c, e1, e _ _ (fun z => ?_) e2⟩
    obtain ⟨xs, e⟩ := hL _ z _ e2
    cases e
theorem PoolAt.only {H : Hp} {p l : Addr} (h : PoolAt H p l) : ∀ x ∈ [p, l], ∀ o, H x = some o → (∃ xs, o = .lst xs) := by
  obtain ⟨_, x, y, ls, h1, h2, _⟩ := h
  intro z hz o ho
  rcases List.mem_cons.mp hz with rfl | hz
  · rw [h1] at ho
    cases ho
    exact ⟨_, rfl⟩
  · rw [List.mem_singleton.mp hz, h2] at ho
    cases ho
    exact ⟨_, rfl⟩
theorem PoolAt.extN {H H' : Hp} {p l : Addr} (h : PoolAt H p l) (e : LamX.ExtN H H') : PoolAt H' p l := by
  obtain ⟨n, x, y, ls, h1, h2, r⟩ := h
  exact ⟨n, x, y, ls, e _ _ h1 (fun ps z => nomatch z), e _ _ h2 (fun ps z => nomatch z), r⟩
theorem ext_toN {H H' : Hp} (e : Ext [] H H') : LamX.ExtN H H' := .of e.toSame
theorem fd_of {name : Str} {st : Stmt} {ps : List Str} (D : DefAt K mg name st ps) {fd' : FuncData} {oc : Value} {od : Option Addr} {osl : Array (Option Value)} (lk : K.lookup D.f = some ⟨oc, od, .func fd', osl⟩) : D.fd = fd' := by
  obtain ⟨oc', od', kV, doc, pm, an, cdv, ct, osl', hfd, lk', cd'⟩ := D.F.ex
  rw [lk] at lk'
  have h := Option.some.inj lk'
  injection h with h1 h2 h3 h4
  injection h3 with h3
  exact h3.symm
theorem cutDrop (xs : List V) : cutV xs (some 1) none = xs.drop 1 := by
  unfold cutV
  cases xs with
  | nil => simp
  | cons x r => simp [HT.sIx]
theorem dpAll_drop {K : PySem.W.Frag} {H : Hp} : ∀ {vs : List V} {ds : List PyData} (n : Nat), DpAll K H vs ds → DpAll K H (vs.drop n) (ds.drop n)
  | _, _, 0, h => h
  | _, _, n + 1, .nil => .nil
  | _, _, n + 1, .cons _ t => dpAll_drop n t
end
end Nv
set_option Elab.async false
set_option linter.all false
set_option maxRecDepth 100000
namespace Nv
open PySem PySem.Spec PyProof.Rows L2
section
variable {P : Program} {w : World} {K : PySem.W.Frag} {mg : Str → Option Value} {base : Heap}
/-! ### what stays where lambdas are made: data -/
theorem extN_of {L : List Addr} {H H' : Hp} (e : Ext L H H') (n : ∀ b ∈ L, ∃ ps, H b = some (.tbl ps)) : LamX.ExtN H H' := fun b o h k => e b o (fun z => by
  obtain ⟨ps, q⟩ := n b z
  rw [h] at q
  exact k ps (Option.some.inj q)) h
theorem ExtN.tup {H H' : Hp} {K : PySem.W.Frag} {a : Addr} {xs : List V} (e : LamX.ExtN H H') (h : SqT K H a xs) : SqT K H' a xs := by
  rcases h with (h | ⟨o, h⟩) | h
  · exact .inl (.inl (e _ _ h fun ps z => nomatch z))
  · exact .inl (.inr ⟨o, e _ _ h fun ps z => nomatch z⟩)
  · exact .inr h
theorem ExtN.lst {H H' : Hp} {K : PySem.W.Frag} {a : Addr} {xs : List V} (e : LamX.ExtN H H') (h : SqL K H a xs) : SqL K H' a xs := by
  rcases h with (h | ⟨o, h⟩) | h
  · exact .inl (.inl (e _ _ h fun ps z => nomatch z))
  · exact .inl (.inr ⟨o, e _ _ h fun ps z => nomatch z⟩)
  · exact .inr h
mutual
theorem Dp.extN {K : PySem.W.Frag} {H H' : Hp} (e : LamX.ExtN H H') : ∀ {v : V} {d : PyData}, Dp K H v d → Dp K H' v d
  | _, _, .non => .non
  | _, _, .bl b => .bl b
  | _, _, .int i => .int i
  | _, _, .str x => .str x
  | _, _, .lst h t => .lst (ExtN.lst e h) (DpAll.extN e t)
  | _, _, .tup h t => .tup (ExtN.tup e h) (DpAll.extN e t)
theorem DpAll.extN {K : PySem.W.Frag} {H H' : Hp} (e : LamX.ExtN H H') : ∀ {vs : List V} {ds : List PyData}, DpAll K H vs ds → DpAll K H' vs ds
  | _, _, .nil => .nil
  | _, _, .cons h t => .cons (Dp.extN e h) (DpAll.extN e t)
end
theorem MvV.extN {K : PySem.W.Frag} {H H' : Hp} (e : LamX.ExtN H H') {p : Addr} {m : Nat × Nat} (h : MvV K H p m) : MvV K H' p m := ExtN.tup e h
theorem StV.extN {K : PySem.W.Frag} {H H' : Hp} (e : LamX.ExtN H H') {v : V} {s : State} (h : StV K H v s) : StV K H' v s := by
  obtain ⟨a, ps, rfl, ⟨o, h1, hd⟩, h2⟩ := h
  exact ⟨a, ps, rfl, ⟨o, e _ _ h1 fun ps z => (nomatch z), hd⟩, Paired.imp h2 fun _ _ q => q.extN e⟩
theorem BkV.extN {K : PySem.W.Frag} {H H' : Hp} (e : LamX.ExtN H H') {v : V} {b : Book} (h : BkV K H v b) : BkV K H' v b := by
  obtain ⟨a, vs, rfl, h1, h2⟩ := h
  exact ⟨a, vs, rfl, ExtN.tup e h1, Paired.imp h2 fun _ _ q => q.extN e⟩
theorem PoolAt.not_tbl {H : Hp} {p l q : Addr} {ts : Array Value} (h : PoolAt H p l) (t : H q = some (.tbl ts)) : q ∉ [p, l] := by
  obtain ⟨_, x, y, ls, h1, h2, _⟩ := h
  refine off2 (fun z => ?_) (fun z => ?_)
  · rw [z, h1] at t; cases t
  · rw [z, h2] at t; cases t
end
end Nv
set_option Elab.async false
set_option linter.all false
set_option maxRecDepth 100000
namespace Nv
open PySem PySem.Spec PyProof.Rows L2
section
variable {P : Program} {w : World} {K : PySem.W.Frag} {mg : Str → Option Value} {base : Heap}
/-! ### one thing asked for its strays -/
theorem sh_mv {n : Nat} {q : Nat × Nat} (h1 : q.1 ≤ 99) (h2 : q.2 < n) (h8 : n ≤ 8) : Sh (mvD q) 1 2 := Sh.tup (ShL.cons (n := 0) (m := 1) (Sh.nat h1) (ShL.cons (n := 0) (m := 0) (Sh.nat (n := q.2) (by omega)) ShL.nil))
theorem sh_st {n : Nat} {s : State} (h : StOk n s) (h8 : n ≤ 8) : Sh (stD s) 2 15 :=
  Sh.tup ((ShL.map (k := 1) (n := 2) fun q hq => sh_mv (h.msg q hq) (h.to q hq) h8).mono (Nat.le_refl _) (by have := h.few; omega))
theorem sh_book {b : Book} (fb : FormB b) : Sh (bookD b) 3 128 :=
  Sh.tup ((ShL.map (k := 2) (n := 15) fun s hs => sh_st (fb.st s hs) fb.eight).mono (Nat.le_refl _) (by have := fb.eight; omega))
theorem sh_told {d : PyData} {k n : Nat} (h : Sh d k n) : Sh (.tuple [.str "told", d]) (k + 1) (n + 10) :=
  Sh.tup ((ShL.cons (Sh.str (n := 4) (by decide +kernel) (by decide +kernel) (by decide +kernel)) (ShL.cons (m := 0) h ShL.nil)).mono (Nat.le_refl _) (by omega))
theorem sh_err {x : Str} {k : PyData} (a : (PyData.str x).showable = true) (e : PyData.leavesShort 8 (.str x) = true) (f : x.cps.size ≤ 20) (h : Sh k 0 0) : Sh (.tuple [.str x, k, .bool true]) 1 40 :=
  Sh.tup ((ShL.cons (Sh.str (n := 20) a e f) (ShL.cons h (ShL.cons (n := 0) (m := 0) Sh.bl ShL.nil))).mono (Nat.le_refl _) (by omega))
theorem okU_made_book (T : Tx K mg) : FnOk P w K mg base (L2.CX P w) 5 T.made_book.f T.made_book.fd ["thing"] (fun vs H Q E => sp_refused K T.x_BadBook.C T.x_Stray.C vs H Q E ∨ sp_made_book K vs H Q E) :=
  ⟨fun vs H Q E z => z.elim ((okX_made_book (P := P) (w := w) (base := base) T).len vs H Q E) ((ok_made_book (P := P) (w := w) (base := base) T).len vs H Q E), fun A outer s H args us vs Q E a b c d z => z.elim ((okX_made_book T).run A outer s H args us vs Q E a b c d) (fun z => codeAny_mono ((ok_made_book T).run A outer s H args us vs Q E a b c d z) fun r s' y => by
    cases r with
    | error e => exact (show False from y).elim
    | ok fl => cases fl <;> exact y)⟩
theorem okA_is_book (T : Tx K mg) : FnOk P w K mg base CX0 6 T.is_book.f T.is_book.fd ["thing"] (fun vs H Q E => sp_is_bookD K T.x_BadBook.C T.x_Stray.C vs H Q E ∨ sp_is_book K vs H Q E) :=
  ⟨fun vs H Q E z => z.elim ((okD_is_book (P := P) (w := w) (base := base) T).len vs H Q E) ((ok_is_book (P := P) (w := w) (base := base) T).len vs H Q E), fun A outer s H args us vs Q E a b c d z => z.elim ((okD_is_book T).run A outer s H args us vs Q E a b c d) ((ok_is_book T).run A outer s H args us vs Q E a b c d)⟩
/-- what is due when made_book is asked: S the strays -/
def dueD (b : Book) : List Nat → PyData
  | [] => .tuple [.str "told", bookD b]
  | k :: _ => .tuple [.str "Stray", .int (k : Int), .bool true]
theorem due_ok {b : Book} (fb : FormB b) {S : List Nat} (h : ∀ s ∈ S, s ≤ 8) : ShowOk (dueD b S) := by
  cases S with
  | nil => exact (sh_told (sh_book fb)).ok (by decide) (by decide)
  | cons k r => exact (sh_err (by decide +kernel) (by decide +kernel) (by decide +kernel) (Sh.nat (by have := h k (List.mem_cons_self ..); omega))).ok (by decide) (by decide)
theorem heard_book (T : Tx K mg) {tl : XK → Hp → VK → Prop} {v : V} {b : Book} {S : List Nat} (htl : ∀ E H Q, (sp_refused K T.x_BadBook.C T.x_Stray.C [v] H Q E ∨ sp_made_book K [v] H Q E) → tl E H Q) {H5 : Hp} {Q' : VK} (hb : BkV K H5 v b) (fb : FormB b)
    (hor : (S = [] ∧ OkB b) ∨ ∃ k r, S = k :: r ∧ StrayAt b k) (h : ∀ (t : Addr) (H7 : Hp), Dp K H7 (.ref t) (dueD b S) → Ext [] H5 H7 → Q' (.ref t) H7) : THeardT T tl H5 Q' := by
  unfold THeardT
  refine htl _ _ _ ?_
  rcases hor with ⟨rfl, ok⟩ | ⟨k, r, rfl, hst⟩
  · refine .inr ⟨v, b, rfl, hb, ok, fun H6 e6 => ⟨(by show 2 ≤ sizeLine; decide), fun t ht => h t _ ?_ (e6.put2 ht)⟩⟩
    exact .tup (.of upd_same) (.cons (.str _) (.cons (hb.ext0 (e6.put2 ht)).wk.dp .nil))
  · refine .inl ⟨v, bookD b, T.x_Stray.C, (k : Int), rfl, hb.wk.dp, .stray rfl fb hst, fun dx H6 hdx hd6 e6 => ⟨"Stray", _, dx, .int k, rfl, .inr ⟨rfl, rfl⟩, rfl, hd6, fun t ht => h t _ ?_ (e6.put2 ht)⟩⟩
    exact .tup (.of upd_same) (.cons (.str _) (.cons (.int _) (.cons (.bl _) .nil)))
theorem ask_book {CB CS : Addr} {v : V} {b : Book} {S : List Nat} {H : Hp} {Q : VK} {E : XK} (hb : BkV K H v b) (fb : FormB b) (hor : (S = [] ∧ OkB b) ∨ ∃ k r, S = k :: r ∧ StrayAt b k) (h : ∀ H', Ext [] H H' → Q (.bl (decide (S = []))) H') : sp_is_bookD K CB CS [v] H Q E ∨ sp_is_book K [v] H Q E := by
  rcases hor with ⟨rfl, ok⟩ | ⟨k, r, rfl, hst⟩
  · exact .inr ⟨v, b, rfl, hb, ok, fun H' e => h H' e⟩
  · refine .inl ⟨v, bookD b, CS, (k : Int), rfl, hb.wk.dp, .stray rfl fb hst, fun H' e => ?_⟩
    have := h H' e
    rwa [decide_eq_false (fun z => nomatch z)] at this
theorem eqv_natnil (S : List Nat) : PyData.eqv (.list ((iN S).map PyData.int)) (.list []) = decide (S = []) := by
  rw [eqv_nil]
  cases S with
  | nil => rfl
  | cons _ _ => rfl
theorem sc_law_trimmed_right : FnScope ["book", "strays", "due", "told"] ["book", "strays"] (defScope s_law_trimmed_right) := ⟨rfl, rfl, rfl, by decide +kernel, rfl, by decide +kernel, by decide +kernel⟩
abbrev qTr (T : Tx K mg) (s : Shared) (cl : Addr) : Str := (envOfC "_law_trimmed_right" (defScope s_law_trimmed_right) s.heap.objs.size T.law_trimmed_right.f (.ref cl)).qual ++ "<lambda>"
def qTr0 : Str := (Str.ofString "_law_trimmed_right" ++ Str.ofString ".<locals>.") ++ Str.ofString "<lambda>"
theorem q_tr (T : Tx K mg) (s : Shared) (cl : Addr) : qTr T s cl = qTr0 := rfl
def sp_law_trimmed_right (K : PySem.W.Frag) (TT : List (Addr × Str)) : Sp := fun vs H Q _ => ∃ (v : V) (b : Book) (s : Addr) (S : List Nat), vs = [v, .ref s] ∧ BkV K H v b ∧ FormB b ∧ H s = some (.lst (S.map nV)) ∧ (∀ s ∈ S, s ≤ 8) ∧ ((S = [] ∧ OkB b) ∨ ∃ k r, S = k :: r ∧ StrayAt b k) ∧ LamX.Tabs TT H ∧ ∀ H', LamX.ExtN H H' → LamX.Tabs TT H' → Q (.bl true) H'
theorem ok_law_trimmed_right (T : Tx K mg) {cl Pt : Addr} {kV doc pm ct oc : Value} {an od : Option Addr} {osl : Array (Option Value)}
    (lk : K.lookup T.law_trimmed_right.f = some ⟨oc, od, .func (PySem.W.fnOf "_law_trimmed_right" "_law_trimmed_right" (defArgs s_law_trimmed_right) (defBody s_law_trimmed_right) (defScope s_law_trimmed_right) .none kV doc pm an (.ref cl) ct), osl⟩) (cd : PySem.W.codeIn K (.ref cl) "_law_trimmed_right" = true) (TB : LamX.TabB base mg cl Pt) {TT : List (Addr × Str)} (hT : (Pt, qTr0) ∈ TT) (hN : ∀ p ∈ TT, p.1 = Pt → p.2 = qTr0) :
    FnG P w K mg base CX0 10 T.law_trimmed_right.f T.law_trimmed_right.fd ["book", "strays"] (sp_law_trimmed_right K TT) := by
  rw [fd_of T.law_trimmed_right lk]
  refine fnG_of lk cd sc_law_trimmed_right (fun vs H Q E h => ?_) fun A outer s H vs Q E hG hr h => ?_
  · obtain ⟨v, b, st, S, rfl, _⟩ := h; rfl
  · obtain ⟨v, b, st, S, rfl, hb, fb, hS, hS9, hor, T0, q⟩ := h
    refine ⟨_, PSs.nox (pss_cons (ps_set (i := 2) sc_law_trimmed_right.nd rfl (.inl rfl) (pe_mid (pe_ifExp (pt_cmpR (op_eqD (hr.units)) (pv 1) (pe_lst pa_nil) (nomark _)) (pe_tup (pa_cons pe_str (pa_cons (pv 0) pa_nil))) (pe_tup (pa_cons pe_str (pa_cons (pe_ix ix_list (pv 1) pe_int (fun _ _ => rfl)) (pa_cons pe_bl pa_nil)))))))
      (pss_cons (ps_if (PW.pt (pw_or (pt_cmpR op_ne (pe_callB (call_reprA hr.units hG) (by rfl) T.n_repr (by decide +kernel) (pa_cons (pe_heardT (k := 6) T rfl rfl (by rfl) TB hT hN rfl (hr.mono (by decide)) (LamX.lamS_by (sc := defScope s_law_trimmed_right) (by decide +kernel)) rfl (fun _ _ _ _ _ => rfl) (fun _ _ _ _ _ _ _ hr => (pe_call (okU_made_book T) (hr.mono (by decide)) (by rfl) T.made_book.g T.made_book.F.kp T.made_book.b .nil (passes_call (takes_of rfl rfl rfl rfl) (fun _ _ _ _ h => h)) (pa_cons (pv 0) pa_nil)))) pa_nil)) (pe_callB (call_reprA hr.units hG) (by rfl) T.n_repr (by decide +kernel) (pa_cons (pv 2) pa_nil)) (nomark _)) (pw_or1 (pt_cmpR op_ne (pe_callB (call_reprA hr.units hG) (by rfl) T.n_repr (by decide +kernel) (pa_cons (pe_call (okA_is_book T) (hr.mono (by decide)) (by rfl) T.is_book.g T.is_book.F.kp T.is_book.b .nil pass0 (pa_cons (pv 0) pa_nil)) pa_nil)) (pe_callB (call_reprA hr.units hG) (by rfl) T.n_repr (by decide +kernel) (pa_cons (pe_cmpR (op_eqD (hr.units)) (pv 1) (pe_lst pa_nil) (nomark _)) pa_nil)) (nomark _)))))
        (pss_one (ps_ret pe_bl))
        pss_nil)
      (pss_cons (ps_set (i := 3) sc_law_trimmed_right.nd rfl (.inl rfl) (pe_call (ok_trimmed T) (hr.mono (by decide)) (by rfl) T.trimmed.g T.trimmed.F.kp T.trimmed.b .nil pass0 (pa_cons (pv 0) pa_nil)))
      (pss_cons (ps_if (PW.pt (pw_or (pt_cmpR op_ne (pe_callB (call_reprA hr.units hG) (by rfl) T.n_repr (by decide +kernel) (pa_cons (pv 3) pa_nil)) (pe_callB (call_reprA hr.units hG) (by rfl) T.n_repr (by decide +kernel) (pa_cons (pe_call (ok_law_by_rows T) (hr.mono (by decide)) (by rfl) T.law_by_rows.g T.law_by_rows.F.kp T.law_by_rows.b .nil pass0 (pa_cons (pv 0) pa_nil)) pa_nil)) (nomark _)) (pw_or1 (pt_cmpR op_ne (pe_callB (call_reprA hr.units hG) (by rfl) T.n_repr (by decide +kernel) (pa_cons (pe_call (ok_trimmed T) (hr.mono (by decide)) (by rfl) T.trimmed.g T.trimmed.F.kp T.trimmed.b .nil pass0 (pa_cons (pv 3) pa_nil)) pa_nil)) (pe_callB (call_reprA hr.units hG) (by rfl) T.n_repr (by decide +kernel) (pa_cons (pv 3) pa_nil)) (nomark _)))))
        (pss_one (ps_ret pe_bl))
        pss_nil)
      (pss_one (ps_ret (pe_cmpR op_isBl (pe_call (okA_is_book T) (hr.mono (by decide)) (by rfl) T.is_book.g T.is_book.F.kp T.is_book.b .nil pass0 (pa_cons (pv 3) pa_nil)) pe_bl (nomark _)))))))), ?_⟩
    have c8 := fb.eight
    have ok' := ren_okB fb
    have S9 : ∀ s ∈ S, s ≤ 8 := hS9
    have shd := due_ok fb S9
    -- due
    refine ⟨fun v H' => Dp K H' v (dueD b S) ∧ Ext [] H H', ⟨_, rfl, Nat.zero_le _, fun x hx => ?_⟩, ?_⟩
    · have e1 : Ext [] H (upd H x (.lst [])) := .new hx
      refine ⟨_, _, .lst (.of (by rw [← map_nV_iN]; exact e1.at hS (by simp))) (dp_ints (iN S)), .lst (.of upd_same) .nil, shaped_ints _, by decide, _, rfl, ?_⟩
      rw [eqv_natnil]
      cases S with
      | nil => exact iteT ⟨_, rfl, (by show 2 ≤ sizeLine; decide), fun t ht => ⟨.tup (.of upd_same) (.cons (.str _) (.cons (hb.ext0 (e1.put2 ht)).wk.dp .nil)), e1.put2 ht⟩⟩
      | cons k r => exact iteF ⟨_, rfl, st, _, 0, _, rfl, rfl, .of (e1.at hS (by simp)), atI_nat (j := 0) rfl, (by show 3 ≤ sizeLine; decide), fun t ht => ⟨.tup (.of upd_same) (.cons (.str _) (.cons (.int _) (.cons (.bl _) .nil))), e1.put2 ht⟩⟩
    rintro du H2 ⟨hdu, e2⟩
    have T2 := T0.ext e2.toSame
    have hb2 := hb.ext0 e2
    have hS2 := e2.at hS (by simp)
    refine ⟨T2, fun H5 eN5 T5 => ?_⟩
    have hb5 := hb2.extN eN5
    refine heard_book T (fun E H Q h => ⟨_, rfl, h⟩) hb5 fb hor fun t H6 ht e6 => ?_
    have eN6 : LamX.ExtN H2 H6 := eN5.trans (ext_toN e6)
    have T6 := T5.ext e6.toSame
    have hdu6 : Dp K H6 du (dueD b S) := Dp.extN eN6 hdu
    have hb6 := hb5.ext0 e6
    have hS6 : H6 st = some (.lst (S.map nV)) := eN6 _ _ hS2 (fun ps z => nomatch z)
    have eN6 : LamX.ExtN H H6 := (ext_toN e2).trans eN6
    refine ⟨_, _, rfl, ht, shd, ?_⟩
    refine ⟨_, rfl, _, _, rfl, hdu6, shd, ?_⟩
    refine ⟨rfl, _, rfl, ?_⟩
    rw [str_ne]
    refine iteF ?_
    clear hdu hdu6 ht hb5 hS2 hb2 T5 T2 e2 eN5 e6
    -- is_book
    have shb : ∀ c : Bool, ShowOk (.bool c) := fun c => (Sh.bl (k := 0) (m := 0)).ok (by decide) (by decide)
    refine ⟨_, rfl, ask_book hb6 fb hor fun H7 e7 => ?_⟩
    refine ⟨_, _, rfl, .bl _, shb _, ?_⟩
    refine ⟨_, rfl, Nat.zero_le _, fun x hx => ?_⟩
    have e8 : Ext [] H6 (upd H7 x (.lst [])) := e7.put2 hx
    refine ⟨_, _, .lst (.of (by rw [← map_nV_iN]; exact e8.at hS6 (by simp))) (dp_ints (iN S)), .lst (.of upd_same) .nil, shaped_ints _, by decide, ?_⟩
    rw [eqv_natnil]
    refine ⟨_, _, rfl, .bl _, shb _, ?_⟩
    refine ⟨rfl, _, rfl, ?_⟩
    rw [str_ne]
    refine iteF ?_
    have hb8 := hb6.ext0 e8
    have T8 := T6.ext e8.toSame
    have eN8 := eN6.trans (ext_toN e8)
    clear hx e7 e8 T6 eN6 hb6 hS6
    generalize upd H7 x (.lst []) = H8 at *
    -- told
    refine ⟨_, rfl, v, b, rfl, hb8.wk, fb, fun tv H9 htv e9 => ?_⟩
    have mo := metO fb
    have hself := ren_self mo
    have es : rename (rename b (ordB b)) (ordB (rename b (ordB b))) = rename b (ordB b) := by rw [hself.1, hself.2]
    obtain ⟨c, hc⟩ : ∃ c, c = rename b (ordB b) := ⟨_, rfl⟩
    have shc : ShowOk (bookD c) := by
      rw [hc]
      exact (sh_book ok'.toFormB).ok (by decide) (by decide)
    rw [← hc] at htv es ok'
    refine ⟨_, rfl, _, _, rfl, htv.wk.dp, shc, ?_⟩
    refine ⟨_, rfl, v, b, rfl, hb8.ext0 e9, fb, fun rv H10 hrv e10 => ?_⟩
    rw [← hc] at hrv
    refine ⟨_, _, rfl, hrv.wk.dp, shc, ?_⟩
    refine ⟨rfl, _, rfl, ?_⟩
    rw [str_ne]
    refine iteF ?_
    have htv10 := htv.ext0 e10
    refine ⟨_, rfl, tv, c, rfl, htv10.wk, ok'.toFormB, fun rv2 H11 hrv2 e11 => ?_⟩
    rw [es] at hrv2
    refine ⟨_, _, rfl, hrv2.wk.dp, shc, ?_⟩
    have htv11 := htv10.ext0 e11
    refine ⟨_, rfl, _, _, rfl, htv11.wk.dp, shc, ?_⟩
    refine ⟨rfl, _, rfl, ?_⟩
    rw [str_ne]
    refine iteF ?_
    have e12 := (e9.trans e10).trans e11
    refine ⟨_, rfl, .inr ⟨tv, c, rfl, htv11, ok', fun H' e => ⟨true, true, rfl, rfl, ?_⟩⟩⟩
    exact q H' (eN8.trans (ext_toN (e12.trans e))) (T8.ext (e12.trans e).toSame)
end
end Nv
set_option Elab.async false
set_option linter.all false
set_option maxRecDepth 100000
namespace Nv
open PySem PySem.Spec PyProof.Rows L2
section
variable {P : Program} {w : World} {K : PySem.W.Frag} {mg : Str → Option Value} {base : Heap}
/-! ### things that are no states, and the law -/
theorem formB_dec {b : Book} (h : decide (1 ≤ b.length ∧ b.length ≤ 8 ∧ ∀ s ∈ b, s.length ≤ 5 ∧ (s.map (·.1)).Pairwise (· < ·) ∧ (∀ p ∈ s, p.1 ≤ 99) ∧ ∀ p ∈ s, p.2 < b.length) = true) : FormB b := by
  obtain ⟨h1, h2, h3⟩ := of_decide_eq_true h
  exact ⟨h1, h2, fun s hs => ⟨(h3 s hs).1, (h3 s hs).2.1, (h3 s hs).2.2.1, (h3 s hs).2.2.2⟩⟩
def bk1 : Book := [[(5, 2)], [(0, 0)], [(3, 2), (4, 0)]]
def bk2 : Book := [[], [(7, 0), (9, 1)]]
def bk3 : Book := [[(0, 0)], [], [], [], [], [], [], []]
theorem bk1_ok : FormB bk1 ∧ rename bk1 (ordB bk1) = [[(5, 1)], [(3, 1), (4, 0)]] := ⟨formB_dec (by decide +kernel), by decide +kernel⟩
theorem bk2_ok : FormB bk2 ∧ rename bk2 (ordB bk2) = [[]] := ⟨formB_dec (by decide +kernel), by decide +kernel⟩
theorem bk3_ok : FormB bk3 ∧ rename bk3 (ordB bk3) = [[(0, 0)]] := ⟨formB_dec (by decide +kernel), by decide +kernel⟩
def oddL (n : Nat) : List PyData := [.none, .int 0, .tuple [.none], .tuple [.tuple [.int 0]], .tuple [.tuple [.int 1, .int 0], .tuple [.int 0, .int 0]], .tuple [.tuple [.int 0, .int (n : Int)]], .tuple [.tuple [.int 100, .int 0]], .tuple [.tuple [.bool true, .int 0]], .tuple [.tuple [.int 0, .int (-1)]]]
theorem odd_bad {n : Nat} : ∀ d ∈ oddL n, stateD n d = false := by
  intro d hd
  simp only [oddL, List.mem_cons, List.not_mem_nil, or_false] at hd
  have one : ∀ d : PyData, pairD (-1) n d = none → stateD n (.tuple [d]) = false := fun d h => by
    show (decide (([d] : List PyData).length ≤ 5) && pairsD (-1) n [d]) = false
    rw [pairs_cons, h]
    rfl
  rcases hd with rfl | rfl | rfl | rfl | rfl | rfl | rfl | rfl | rfl
  · rfl
  · rfl
  · exact one _ rfl
  · exact one _ rfl
  · show (decide (([PyData.tuple [.int 1, .int 0], .tuple [.int 0, .int 0]] : List PyData).length ≤ 5) && pairsD (-1) n [.tuple [.int 1, .int 0], .tuple [.int 0, .int 0]]) = false
    rw [pairs_cons]
    have : pairsD 1 n [.tuple [.int 0, .int 0]] = false := by
      rw [pairs_cons]
      have : pairD 1 n (.tuple [.int 0, .int 0]) = none := by
        show (if (1 : Int) + 1 ≤ 0 ∧ (0 : Int) ≤ 99 ∧ (0 : Int) ≤ 0 ∧ (0 : Int) ≤ (n : Int) - 1 then some (0 : Int) else none) = none
        rw [if_neg (by omega)]
      rw [this]
    show (_ && (match (if (-1 : Int) + 1 ≤ 1 ∧ (1 : Int) ≤ 99 ∧ (0 : Int) ≤ 0 ∧ (0 : Int) ≤ (n : Int) - 1 then some (1 : Int) else none) with | some m => pairsD m n [.tuple [.int 0, .int 0]] | none => false)) = false
    split
    · rename_i m hm
      split at hm
      · cases hm
        rw [this, Bool.and_false]
      · cases hm
    · rw [Bool.and_false]
  · refine one _ ?_
    show (if (-1 : Int) + 1 ≤ 0 ∧ (0 : Int) ≤ 99 ∧ (0 : Int) ≤ (n : Int) ∧ (n : Int) ≤ (n : Int) - 1 then some (0 : Int) else none) = none
    rw [if_neg (by omega)]
  · refine one _ ?_
    show (if (-1 : Int) + 1 ≤ 100 ∧ (100 : Int) ≤ 99 ∧ (0 : Int) ≤ 0 ∧ (0 : Int) ≤ (n : Int) - 1 then some (100 : Int) else none) = none
    rw [if_neg (by omega)]
  · exact one _ rfl
  · refine one _ ?_
    show (if (-1 : Int) + 1 ≤ 0 ∧ (0 : Int) ≤ 99 ∧ (0 : Int) ≤ -1 ∧ (-1 : Int) ≤ (n : Int) - 1 then some (0 : Int) else none) = none
    rw [if_neg (by omega)]
/-- a book with one thing in it that is no state -/
theorem bent_bad {b : Book} (fb : FormB b) {k : Nat} (hk : k < b.length) {d : PyData} (hd : stateD b.length d = false) : formErr (.tuple ((b.map stD).take k ++ [d] ++ (b.map stD).drop (k + 1))) = some (k : Int) := by
  have h8 := fb.eight
  have hl : ((b.map stD).take k ++ [d] ++ (b.map stD).drop (k + 1)).length = b.length := by
    rw [List.length_append, List.length_append, List.length_take, List.length_drop, List.length_map, List.length_singleton]
    omega
  show (if 1 ≤ ((b.map stD).take k ++ [d] ++ (b.map stD).drop (k + 1)).length ∧ ((b.map stD).take k ++ [d] ++ (b.map stD).drop (k + 1)).length ≤ 8 then firstBad ((b.map stD).take k ++ [d] ++ (b.map stD).drop (k + 1)).length ((b.map stD).take k ++ [d] ++ (b.map stD).drop (k + 1)) 0 else some (-1)) = some (k : Int)
  rw [hl, if_pos ⟨fb.one, h8⟩]
  have tl : ((b.map stD).take k).length = k := by rw [List.length_take, List.length_map]; omega
  have := first_at (n := b.length) ((b.map stD).take k ++ [d] ++ (b.map stD).drop (k + 1)) 0 k d (by
    rw [List.append_assoc, List.getElem?_append_right (by omega), tl, Nat.sub_self]
    rfl) hd (fun j e hj he => by
    rw [List.append_assoc, List.getElem?_append_left (by omega), List.getElem?_take_of_lt hj, List.getElem?_map] at he
    cases e2 : b[j]? with
    | none => rw [e2] at he; cases he
    | some s =>
      rw [e2] at he
      cases he
      exact state_ok (fb.st s (List.mem_of_getElem? e2)))
  rw [this, Nat.zero_add]
def noneL : List PyData := [.none, .tuple [], .tuple (List.replicate 9 (.tuple [])), .int 3, .bool true, .str "book"]
theorem none_bad : ∀ d ∈ noneL, formErr d = some (-1) := by
  intro d hd
  simp only [noneL, List.mem_cons, List.not_mem_nil, or_false] at hd
  rcases hd with rfl | rfl | rfl | rfl | rfl | rfl <;> first | rfl | decide +kernel
theorem heard_form (T : Tx K mg) {tl : XK → Hp → VK → Prop} {e : Int} {H5 : Hp} {Q' : VK} (htl : ∀ E Q, Outs H5 E T.x_BadBook.C e → tl E H5 Q) (h : ∀ (t : Addr) (H7 : Hp), Dp K H7 (.ref t) (.tuple [.str "BadBook", .int e, .bool true]) → Ext [] H5 H7 → Q' (.ref t) H7) : THeardT T tl H5 Q' := by
  unfold THeardT
  refine htl _ _ fun dx H6 hdx hd6 e6 => ⟨"BadBook", _, dx, .int e, rfl, .inl ⟨rfl, rfl⟩, rfl, hd6, fun t ht => h t _ ?_ (e6.put2 ht)⟩
  exact .tup (.of upd_same) (.cons (.str _) (.cons (.int _) (.cons (.bl _) .nil)))
theorem Ext.tabsL {L : List Addr} {H H' : Hp} {TT : List (Addr × Str)} (e : Ext L H H') (hL : ∀ x ∈ L, ∀ o, H x = some o → (∃ xs, o = .lst xs)) (t : LamX.Tabs TT H) : LamX.Tabs TT H' := fun p hp => by
  obtain ⟨ps, h1, h2, h3⟩ := t p hp
  refine ⟨ps, e _ _ (fun z => ?_) h1, h2, fun pos cv hc => ?_⟩
  · obtain ⟨xs, e⟩ := hL _ z _ h1
    cases e
  · obtain ⟨c, e1, e2⟩ := h3 pos cv hc
    refine ⟨c, e1, e _ _ (fun z => ?_) e2⟩
    obtain ⟨xs, e⟩ := hL _ z _ e2
    cases e
theorem slA {K : PySem.W.Frag} {H : Hp} {a : Addr} {xs : List V} {lo hi : Option Int} {Q : VK} (h : SqT K H a xs) (q : ∀ (t : Addr) (H' : Hp), SqT K H' t (cutV xs lo hi) → Ext [] H H' → Q (.ref t) H') : rSlA K (.ref a) lo hi H Q := by
  refine ⟨a, xs, rfl, h, fun hw => ?_, fun _ p hp => q p _ (.of upd_same) (.new hp)⟩
  have e : cutV xs lo hi = xs := by
    unfold cutV
    rw [hw.1, hw.2, List.drop_zero, Nat.sub_zero, List.take_length]
  exact q a H (by rw [e]; exact h) .refl
theorem catA {K : PySem.W.Frag} {H : Hp} {a b : Addr} {xs ys : List V} {Q : VK} (h1 : SqT K H a xs) (h2 : SqT K H b ys) (hl : xs.length + ys.length ≤ 1000) (q : ∀ (t : Addr) (H' : Hp), SqT K H' t (xs ++ ys) → Ext [] H H' → Q (.ref t) H') : rCatA K (.ref a) (.ref b) H Q := by
  refine ⟨a, b, xs, ys, rfl, rfl, h1, h2, Nat.le_of_lt (small1000 hl), fun e => ?_, fun _ e => ?_, fun _ _ p hp => q p _ (.of upd_same) (.new hp)⟩
  · exact q b H (by rw [e]; exact h2) .refl
  · exact q a H (by rw [e, List.append_nil]; exact h1) .refl
theorem cutTakeN (xs : List V) (n : Nat) : cutV xs none (some (n : Int)) = xs.take n := by
  unfold cutV
  rw [HT.sIx_nat, HT.sIx_none, List.drop_zero, Nat.sub_zero]
  by_cases h : n ≤ xs.length
  · rw [Nat.min_eq_left h]
  · rw [Nat.min_eq_right (by omega), List.take_length, List.take_of_length_le (by omega)]
theorem dpAll_take {K : PySem.W.Frag} {H : Hp} : ∀ {vs : List V} {ds : List PyData} (n : Nat), DpAll K H vs ds → DpAll K H (vs.take n) (ds.take n)
  | _, _, 0, _ => .nil
  | _, _, n + 1, .nil => .nil
  | _, _, n + 1, .cons h t => .cons h (dpAll_take n t)
def qLaw : Str := (Str.ofString "law" ++ Str.ofString ".<locals>.") ++ Str.ofString "<lambda>"
def spLaw (K : PySem.W.Frag) (Ts : List (Addr × Addr)) : Sp := fun vs H Q _ => ∃ (a : Addr) (ns : List Int), vs = [.ref a] ∧ SqL K H a (ns.map V.int) ∧ ns.length ≤ 63 ∧ (∀ p ∈ Ts, H p.2 = some (.tbl #[])) ∧ ∀ H', Q (.bl true) H'
theorem sc_law : FnScope ["script", "pool", "book", "turn", "thing", "strays", "at", "odd", "bent", "none"] ["script"] (defScope s_law) := ⟨rfl, rfl, rfl, by decide +kernel, rfl, by decide +kernel, by decide +kernel⟩
set_option maxHeartbeats 4000000 in
theorem ok_law (T : Tx K mg) {cl Pt : Addr} {kV doc pm ct oc : Value} {an od : Option Addr} {osl : Array (Option Value)}
    (lk : K.lookup T.law.f = some ⟨oc, od, .func (PySem.W.fnOf "law" "law" (defArgs s_law) (defBody s_law) (defScope s_law) .none kV doc pm an (.ref cl) ct), osl⟩) (cd : PySem.W.codeIn K (.ref cl) "law" = true) (TB : LamX.TabB base mg cl Pt)
    {cl1 Pt1 : Addr} {kV1 doc1 pm1 ct1 oc1 : Value} {an1 od1 : Option Addr} {osl1 : Array (Option Value)}
    (lk1 : K.lookup T.law_trimmed_right.f = some ⟨oc1, od1, .func (PySem.W.fnOf "_law_trimmed_right" "_law_trimmed_right" (defArgs s_law_trimmed_right) (defBody s_law_trimmed_right) (defScope s_law_trimmed_right) .none kV1 doc1 pm1 an1 (.ref cl1) ct1), osl1⟩) (cd1 : PySem.W.codeIn K (.ref cl1) "_law_trimmed_right" = true) (TB1 : LamX.TabB base mg cl1 Pt1) (hD : Pt ≠ Pt1) :
    FnG P w K mg base CX0 11 T.law.f (PySem.W.fnOf "law" "law" (defArgs s_law) (defBody s_law) (defScope s_law) .none kV doc pm an (.ref cl) ct) ["script"] (spLaw K [(cl, Pt), (cl1, Pt1)]) := by
  obtain ⟨TT, eT⟩ : ∃ TT : List (Addr × Str), TT = [(Pt, qLaw), (Pt1, qTr0)] := ⟨_, rfl⟩
  have hT : (Pt, qLaw) ∈ TT := by rw [eT]; simp
  have hT1 : (Pt1, qTr0) ∈ TT := by rw [eT]; simp
  have hN : ∀ p ∈ TT, p.1 = Pt → p.2 = qLaw := fun p hp e => by
    rw [eT] at hp
    rcases List.mem_cons.mp hp with rfl | hp
    · rfl
    · rw [List.mem_singleton.mp hp] at e
      exact absurd e.symm hD
  have hN1 : ∀ p ∈ TT, p.1 = Pt1 → p.2 = qTr0 := fun p hp e => by
    rw [eT] at hp
    rcases List.mem_cons.mp hp with rfl | hp
    · exact absurd e hD
    · rw [List.mem_singleton.mp hp]
  refine fnG_of lk cd sc_law (fun vs H Q E h => ?_) fun A outer s H vs Q E hG hr h => ?_
  · obtain ⟨a, ns, rfl, _⟩ := h; rfl
  · obtain ⟨a, ns, rfl, hs, hn, hP, q⟩ := h
    refine ⟨_, PSs.nox (pss_cons (ps_set (i := 1) sc_law.nd rfl (.inl rfl) (pe_call (ok_law_pool T) (hr.mono (by decide)) (by rfl) T.law_pool.g T.law_pool.F.kp T.law_pool.b .nil pass0 (pa_cons (pv 0) pa_nil)))
      (pss_cons (ps_if (pt_cmpR (op_neD (hr.units)) (pe_call (ok_trimmed T) (hr.mono (by decide)) (by rfl) T.trimmed.g T.trimmed.F.kp T.trimmed.b .nil pass0 (pa_cons (pd_tup (K := K) (pds_cons (pd_tup (K := K) (pds_cons (pd_tup (K := K) (pds_cons pd_int (pds_cons pd_int pds_nil))) pds_nil)) (pds_cons (pd_tup (K := K) (pds_cons (pd_tup (K := K) (pds_cons pd_int (pds_cons pd_int pds_nil))) pds_nil)) (pds_cons (pd_tup (K := K) (pds_cons (pd_tup (K := K) (pds_cons pd_int (pds_cons pd_int pds_nil))) (pds_cons (pd_tup (K := K) (pds_cons pd_int (pds_cons pd_int pds_nil))) pds_nil))) pds_nil)))) pa_nil)) (pd_tup (K := K) (pds_cons (pd_tup (K := K) (pds_cons (pd_tup (K := K) (pds_cons pd_int (pds_cons pd_int pds_nil))) pds_nil)) (pds_cons (pd_tup (K := K) (pds_cons (pd_tup (K := K) (pds_cons pd_int (pds_cons pd_int pds_nil))) (pds_cons (pd_tup (K := K) (pds_cons pd_int (pds_cons pd_int pds_nil))) pds_nil))) pds_nil))) (nomark _))
        (pss_one (ps_ret pe_bl))
        pss_nil)
      (pss_cons (ps_if (PW.pt (pw_or (pt_cmpR (op_neD (hr.units)) (pe_call (ok_trimmed T) (hr.mono (by decide)) (by rfl) T.trimmed.g T.trimmed.F.kp T.trimmed.b .nil pass0 (pa_cons (pd_tup (K := K) (pds_cons (pd_tup (K := K) pds_nil) (pds_cons (pd_tup (K := K) (pds_cons (pd_tup (K := K) (pds_cons pd_int (pds_cons pd_int pds_nil))) (pds_cons (pd_tup (K := K) (pds_cons pd_int (pds_cons pd_int pds_nil))) pds_nil))) pds_nil))) pa_nil)) (pd_tup (K := K) (pds_cons (pd_tup (K := K) pds_nil) pds_nil)) (nomark _)) (pw_or1 (pt_cmpR (op_neD (hr.units)) (pe_call (ok_trimmed T) (hr.mono (by decide)) (by rfl) T.trimmed.g T.trimmed.F.kp T.trimmed.b .nil pass0 (pa_cons (pe_op op_catA (pd_tup (K := K) (pds_cons (pd_tup (K := K) (pds_cons (pd_tup (K := K) (pds_cons pd_int (pds_cons pd_int pds_nil))) pds_nil)) pds_nil)) (pe_op op_repT (pd_tup (K := K) (pds_cons (pd_tup (K := K) pds_nil) pds_nil)) pe_int)) pa_nil)) (pd_tup (K := K) (pds_cons (pd_tup (K := K) (pds_cons (pd_tup (K := K) (pds_cons pd_int (pds_cons pd_int pds_nil))) pds_nil)) pds_nil)) (nomark _)))))
        (pss_one (ps_ret pe_bl))
        pss_nil)
      (pss_cons (ps_set (i := 2) sc_law.nd rfl (.inl rfl) (pe_call (ok_law_book_drawn T) (hr.mono (by decide)) (by rfl) T.law_book_drawn.g T.law_book_drawn.F.kp T.law_book_drawn.b .nil pass0 (pa_cons (pv 1) (pa_cons pe_int (pa_cons pe_int pa_nil)))))
      (pss_cons (ps_for PassesOwn.never rfl (pi_range1 (by rfl) T.n_range (pa_cons pe_int pa_nil)) (pg_name (i := 3) sc_law.nd rfl (.inl rfl))
        (pss_cons (ps_asg (pe_call (ok_law_with_strays T) (hr.mono (by decide)) (by rfl) T.law_with_strays.g T.law_with_strays.F.kp T.law_with_strays.b .nil pass0 (pa_cons (pv 1) (pa_cons (pv 2) pa_nil))) (pg_unl rfl (pgs_cons (pg_name (i := 4) sc_law.nd rfl (.inl rfl)) (pgs_cons (pg_name (i := 5) sc_law.nd rfl (.inl rfl)) pgs_nil))))
        (pss_one (ps_if (pt_not (pt_val (pe_callG (ok_law_trimmed_right T lk1 cd1 TB1 hT1 hN1) hG (hr.mono (by decide)) (by rfl) T.law_trimmed_right.g T.law_trimmed_right.F.kp T.law_trimmed_right.b .nil pass0 (pa_cons (pv 4) (pa_cons (pv 5) pa_nil)))))
          (pss_one (ps_ret pe_bl))
          pss_nil))))
      (pss_cons (ps_if (pt_not (pt_val (pe_callG (ok_law_trimmed_right T lk1 cd1 TB1 hT1 hN1) hG (hr.mono (by decide)) (by rfl) T.law_trimmed_right.g T.law_trimmed_right.F.kp T.law_trimmed_right.b .nil pass0 (pa_cons (pe_ix ix_list (pe_call (ok_law_book_renamed T) (hr.mono (by decide)) (by rfl) T.law_book_renamed.g T.law_book_renamed.F.kp T.law_book_renamed.b .nil pass0 (pa_cons (pv 1) (pa_cons (pv 2) pa_nil))) pe_int (fun _ _ => rfl)) (pa_cons (pe_lst pa_nil) pa_nil)))))
        (pss_one (ps_ret pe_bl))
        pss_nil)
      (pss_cons (ps_set (i := 6) sc_law.nd rfl (.inl rfl) (pe_call (ok_law_draw T) (hr.mono (by decide)) (by rfl) T.law_draw.g T.law_draw.F.kp T.law_draw.b .nil pass0 (pa_cons (pv 1) (pa_cons (pe_callB call_len_seq (by rfl) T.n_len PySem.boot_len (pa_cons (pv 4) pa_nil)) pa_nil))))
      (pss_cons (ps_set (i := 7) sc_law.nd rfl (.inl rfl) (pe_call (ok_law_pick T) (hr.mono (by decide)) (by rfl) T.law_pick.g T.law_pick.F.kp T.law_pick.b .nil pass0 (pa_cons (pv 1) (pa_cons (pe_lst (pa_cons pe_non (pa_cons pe_int (pa_cons (pd_tup (K := K) (pds_cons pd_none pds_nil)) (pa_cons (pd_tup (K := K) (pds_cons (pd_tup (K := K) (pds_cons pd_int pds_nil)) pds_nil)) (pa_cons (pd_tup (K := K) (pds_cons (pd_tup (K := K) (pds_cons pd_int (pds_cons pd_int pds_nil))) (pds_cons (pd_tup (K := K) (pds_cons pd_int (pds_cons pd_int pds_nil))) pds_nil))) (pa_cons (pe_tup (pa_cons (pe_tup (pa_cons pe_int (pa_cons (pe_callB call_len_seq (by rfl) T.n_len PySem.boot_len (pa_cons (pv 4) pa_nil)) pa_nil))) pa_nil)) (pa_cons (pd_tup (K := K) (pds_cons (pd_tup (K := K) (pds_cons pd_int (pds_cons pd_int pds_nil))) pds_nil)) (pa_cons (pd_tup (K := K) (pds_cons (pd_tup (K := K) (pds_cons pd_bool (pds_cons pd_int pds_nil))) pds_nil)) (pa_cons (pd_tup (K := K) (pds_cons (pd_tup (K := K) (pds_cons pd_int (pds_cons pd_neg pds_nil))) pds_nil)) pa_nil)))))))))) pa_nil))))
      (pss_cons (ps_set (i := 8) sc_law.nd rfl (.inr rfl) (pe_op op_catA (pe_op op_catA (pe_slice sl_tupA (pv 4) po_none (po_some (pv 6))) (pe_tup (pa_cons (pv 7) pa_nil))) (pe_slice sl_tupA (pv 4) (po_some (pe_op op_add (pv 6) pe_int)) po_none)))
      (pss_cons (ps_if (pt_cmpR op_ne (pe_callB (call_reprA hr.units hG) (by rfl) T.n_repr (by decide +kernel) (pa_cons (pe_heardT (k := 6) T rfl rfl (by rfl) TB hT hN rfl (hr.mono (by decide)) (LamX.lamS_by (sc := defScope s_law) (by decide +kernel)) rfl (fun _ _ _ _ _ => rfl) (fun _ _ _ _ _ _ _ hr => (pe_call (okX_trimmed T) (hr.mono (by decide)) (by rfl) T.trimmed.g T.trimmed.F.kp T.trimmed.b .nil (passes_call (takes_of rfl rfl rfl rfl) (fun _ _ _ _ h => h)) (pa_cons (pv 8) pa_nil)))) pa_nil)) (pe_callB (call_reprA hr.units hG) (by rfl) T.n_repr (by decide +kernel) (pa_cons (pd_tup (K := K) (pds_cons pd_str (pds_cons (pd_var (i := 6) (pv 6)) (pds_cons pd_bool pds_nil)))) pa_nil)) (nomark _))
        (pss_one (ps_ret pe_bl))
        pss_nil)
      (pss_cons (ps_if (PW.pt (pw_or (pt_cmpR op_ne (pe_callB (call_reprA hr.units hG) (by rfl) T.n_repr (by decide +kernel) (pa_cons (pe_heardT (k := 6) T rfl rfl (by rfl) TB hT hN rfl (hr.mono (by decide)) (LamX.lamS_by (sc := defScope s_law) (by decide +kernel)) rfl (fun _ _ _ _ _ => rfl) (fun _ _ _ _ _ _ _ hr => (pe_call (okX_made_book T) (hr.mono (by decide)) (by rfl) T.made_book.g T.made_book.F.kp T.made_book.b .nil (passes_call (takes_of rfl rfl rfl rfl) (fun _ _ _ _ h => h)) (pa_cons (pv 8) pa_nil)))) pa_nil)) (pe_callB (call_reprA hr.units hG) (by rfl) T.n_repr (by decide +kernel) (pa_cons (pd_tup (K := K) (pds_cons pd_str (pds_cons (pd_var (i := 6) (pv 6)) (pds_cons pd_bool pds_nil)))) pa_nil)) (nomark _)) (pw_or1 (pt_cmpR op_notBl (pe_call (okD_is_book T) (hr.mono (by decide)) (by rfl) T.is_book.g T.is_book.F.kp T.is_book.b .nil pass0 (pa_cons (pv 8) pa_nil)) pe_bl (nomark _)))))
        (pss_one (ps_ret pe_bl))
        pss_nil)
      (pss_cons (ps_set (i := 9) sc_law.nd rfl (.inr rfl) (pe_call (ok_law_pick T) (hr.mono (by decide)) (by rfl) T.law_pick.g T.law_pick.F.kp T.law_pick.b .nil pass0 (pa_cons (pv 1) (pa_cons (pd_lst (K := K) (pds_cons pd_none (pds_cons (pd_tup (K := K) pds_nil) (pds_cons (pd_rep (pds_cons (pd_tup (K := K) pds_nil) pds_nil)) (pds_cons pd_int (pds_cons pd_bool (pds_cons pd_str pds_nil))))))) pa_nil))))
      (pss_one (ps_ret (pe_cmpR op_eq (pe_callB (call_reprA hr.units hG) (by rfl) T.n_repr (by decide +kernel) (pa_cons (pe_heardT (k := 6) T rfl rfl (by rfl) TB hT hN rfl (hr.mono (by decide)) (LamX.lamS_by (sc := defScope s_law) (by decide +kernel)) rfl (fun _ _ _ _ _ => rfl) (fun _ _ _ _ _ _ _ hr => (pe_call (okX_trimmed T) (hr.mono (by decide)) (by rfl) T.trimmed.g T.trimmed.F.kp T.trimmed.b .nil (passes_call (takes_of rfl rfl rfl rfl) (fun _ _ _ _ h => h)) (pa_cons (pv 9) pa_nil)))) pa_nil)) (pe_callB (call_reprA hr.units hG) (by rfl) T.n_repr (by decide +kernel) (pa_cons (pd_tup (K := K) (pds_cons pd_str (pds_cons pd_neg (pds_cons pd_bool pds_nil)))) pa_nil)) (nomark _)))))))))))))))), ?_⟩
    have T0 : LamX.Tabs TT H := by
      rw [eT]
      intro p hp
      rcases List.mem_cons.mp hp with rfl | hp
      · exact LamX.TabS.nil (hP (cl, Pt) (by simp))
      · rw [List.mem_singleton.mp hp]
        exact LamX.TabS.nil (hP (cl1, Pt1) (by simp))
    refine ⟨_, rfl, a, ns, rfl, hs, hn, fun p l H1 hp hl P1 e1 => ?_⟩
    have T1 : LamX.Tabs TT H1 := T0.ext e1.toSame
    -- trimmed of told books
    refine ⟨bookD bk1, rfl, fun v1 H2 e2 d2 => ⟨v1, bk1, rfl, BkW.of d2, bk1_ok.1, fun v2 H3 hv2 e3 => ?_⟩⟩
    rw [bk1_ok.2] at hv2
    refine ⟨bookD [[(5, 1)], [(3, 1), (4, 0)]], rfl, fun v3 H4 e4 d4 => ⟨_, _, (hv2.ext0 e4).wk.dp, d4, by decide +kernel, by decide +kernel, _, rfl, ?_⟩⟩
    rw [show (!PyData.eqv (bookD [[(5, 1)], [(3, 1), (4, 0)]]) (bookD [[(5, 1)], [(3, 1), (4, 0)]])) = false by decide +kernel]
    refine iteF ?_
    have e14 := (e2.trans e3).trans e4
    have T4 := T1.ext e14.toSame
    have P4 := P1.ext0 e14
    clear hv2 d2 d4 e2 e3 e4 e14 T1 P1 e1 hp hl
    refine ⟨bookD bk2, rfl, fun v1 H5 e2 d2 => ⟨v1, bk2, rfl, BkW.of d2, bk2_ok.1, fun v2 H6 hv2 e3 => ?_⟩⟩
    rw [bk2_ok.2] at hv2
    refine ⟨bookD [[]], rfl, fun v3 H7 e4 d4 => ⟨_, _, (hv2.ext0 e4).wk.dp, d4, by decide +kernel, by decide +kernel, _, rfl, ?_⟩⟩
    rw [show (!PyData.eqv (bookD [[]]) (bookD [[]])) = false by decide +kernel]
    refine iteF ?_
    have e14 := (e2.trans e3).trans e4
    have T7 := T4.ext e14.toSame
    have P7 := P4.ext0 e14
    clear hv2 d2 d4 e2 e3 e4 e14 T4 P4
    refine ⟨.tuple [stD [(0, 0)]], rfl, fun v1 H8 e8 d8 => ⟨.tuple [.tuple []], rfl, fun v2 H9 e9 d9 => ?_⟩⟩
    cases d8 with
    | @tup c8 xs8 _ hc8 hd8 =>
    cases d9 with
    | @tup c9 xs9 _ hc9 hd9 =>
    have l8 := dpAll_len hd8
    have l9 := dpAll_len hd9
    refine ⟨c9, 7, xs9, rfl, rfl, hc9, (fun z => by rw [z] at l9; cases l9), by decide, by decide, by rw [l9]; decide, fun g hg => ?_⟩
    have eg : Ext [] H9 (upd H9 g (.tup (List.replicate (7 : Int).toNat xs9).flatten)) := .new hg
    have l7 : (List.replicate (7 : Int).toNat xs9).flatten.length = 7 := by
      rw [show (7 : Int).toNat = 7 from rfl, List.length_flatten, List.map_replicate, l9]
      rfl
    refine ⟨c8, g, xs8, _, rfl, rfl, (e9.trans eg).tup Lsts.nil hc8, .of upd_same, ?_, fun h0 => ?_, fun _ h0 => ?_, fun _ _ g3 hg3 => ?_⟩
    · rw [l8, l7]; decide
    · rw [h0] at l8; cases l8
    · rw [h0] at l7; cases l7
    have eg3 : Ext [] H9 (upd (upd H9 g (.tup (List.replicate (7 : Int).toNat xs9).flatten)) g3 (.tup (xs8 ++ (List.replicate (7 : Int).toNat xs9).flatten))) := eg.put2 hg3
    have db3 : Dp K (upd (upd H9 g (.tup (List.replicate (7 : Int).toNat xs9).flatten)) g3 (.tup (xs8 ++ (List.replicate (7 : Int).toNat xs9).flatten))) (.ref g3) (bookD bk3) := by
      have hd : DpAll K H9 (xs8 ++ (List.replicate (7 : Int).toNat xs9).flatten) ([stD [(0, 0)]] ++ (List.replicate 7 [PyData.tuple []]).flatten) := DpAll.append (DpAll.ext0 e9 hd8) (DpAll.rep hd9 7)
      exact .tup (.of upd_same) (DpAll.ext0 eg3 hd)
    refine ⟨.ref g3, bk3, rfl, BkW.of db3, bk3_ok.1, fun v2 H6 hv2 e3 => ?_⟩
    rw [bk3_ok.2] at hv2
    refine ⟨bookD [[(0, 0)]], rfl, fun v3 H10 e4 d4 => ⟨_, _, (hv2.ext0 e4).wk.dp, d4, by decide +kernel, by decide +kernel, _, rfl, ?_⟩⟩
    rw [show (!PyData.eqv (bookD [[(0, 0)]]) (bookD [[(0, 0)]])) = false by decide +kernel]
    refine iteF ?_
    have e14 := (((e8.trans e9).trans eg3).trans e3).trans e4
    have T10 := T7.ext e14.toSame
    have P10 := P7.ext0 e14
    clear hv2 d4 e3 e4 e14 T7 P7 eg3 eg db3 e8 e9 hg hg3 hc8 hc9 hd8 hd9
    -- the book
    refine ⟨_, rfl, p, l, 5, 3, rfl, P10, by decide, by decide, by decide, fun b bv H11 ok _ _ hb P11 e11 => ?_⟩
    have T11 := e11.tabsL P10.only T10
    have fb := ok.toFormB
    have h8 := fb.eight
    refine ⟨_, rfl, by decide, by decide, for_range (lo := 0) (n := 3) (fun i σ H' => ∃ (y3 y4 y5 y6 y7 y8 y9 : Option V), σ = [some (.ref a), some (.ref p), some bv, y3, y4, y5, y6, y7, y8, y9] ∧ BkV K H' bv b ∧ PoolAt H' p l ∧ LamX.Tabs TT H' ∧ (i ≠ 0 → ∃ v c, y4 = some v ∧ BkV K H' v c ∧ FormB c)) ⟨_, _, _, _, _, _, _, rfl, hb, P11, T11, fun z => absurd rfl z⟩ ?_ ?_⟩
    · rintro i σ H12 hi ⟨y3, y4, y5, y6, y7, y8, y9, rfl, hb12, P12, T12, _⟩
      refine ⟨_, rfl, _, rfl, p, l, bv, b, rfl, P12, hb12, fb, fun N S R r ts c H13 pb h8' Sp Sw hr' hc hts P13 e13 => ?_⟩
      have T13 := e13.tabsL P12.only T12
      have hb13 := hb12.ext e13 P12.lsts
      have fc := putB_form fb pb h8'
      refine ⟨r, _, rfl, .of hr', rfl, _, _, rfl, _, _, rfl, rfl, ?_⟩
      have hTr : (S = [] ∧ OkB (putB b N R)) ∨ ∃ k r, S = k :: r ∧ StrayAt (putB b N R) k := by
        cases S with
        | nil =>
          have hl := Sp.length_eq
          rw [List.length_drop, pb.n.len, List.length_nil] at hl
          have : R = [] := List.length_eq_zero_iff.mp (by omega)
          subst this
          exact .inl ⟨rfl, putB_okB ok pb⟩
        | cons k r => exact .inr ⟨k, r, rfl, putB_stray ok pb Sp Sw⟩
      have hS8 : ∀ s ∈ S, s ≤ 8 := fun s hs => by
        have := pb.n.lt (List.mem_of_mem_drop (Sp.mem_iff.mp hs))
        omega
      exact ⟨_, rfl, _, rfl, c, _, ts, S, rfl, hc, fc, hts, hS8, hTr, T13, fun H14 eN T14 => ⟨true, rfl, iteF ⟨_, _, _, _, _, _, _, rfl, hb13.extN eN, P13.extN eN, T14, fun _ => ⟨c, _, rfl, hc.extN eN, fc⟩⟩⟩⟩
    · rintro σ H12 ⟨y3, y4, y5, y6, y7, y8, y9, rfl, hb12, P12, T12, hy⟩
      obtain ⟨v, c, rfl, hv, fc⟩ := hy (by decide)
      refine ⟨_, rfl, _, rfl, p, l, bv, b, rfl, P12, hb12, fb, fun N r tn rc H13 pb hr' hrc P13 e13 => ⟨r, _, 0, _, rfl, rfl, .of hr', atI_nat (j := 0) rfl, Nat.zero_le _, fun s0 hs0 => ?_⟩⟩
      have T13 := e13.tabsL P12.only T12
      have hv13 := hv.ext e13 P12.lsts
      have e14 : Ext [] H13 (upd H13 s0 (.lst [])) := .new hs0
      have okr := putB_okB ok pb
      refine ⟨rc, _, s0, [], rfl, hrc.ext0 e14, okr.toFormB, upd_same, (fun s hs => nomatch hs), .inl ⟨rfl, okr⟩, T13.ext e14.toSame, fun H14 eN14 T14 => ⟨true, rfl, iteF ?_⟩⟩
      have eN13 : LamX.ExtN H13 H14 := (ext_toN e14).trans eN14
      have P14 := P13.extN eN13
      have hv14 := hv13.extN eN13
      clear e14 eN13 eN14 hs0 hrc hr' P13 hv13 T13 e13 T12 P12 hb12 hv
      obtain ⟨m, xs, rfl, hm, hxs⟩ := id hv14
      have xl := Paired.len hxs
      have c8 := fc.eight
      have c1 := fc.one
      -- at
      refine ⟨_, rfl, _, rfl, m, _, rfl, .inr hm, p, l, _, rfl, P14, by omega, by omega, fun k' H15 k0 k1 P15 e15 => ?_⟩
      obtain ⟨k, rfl⟩ : ∃ k : Nat, k' = (k : Int) := ⟨k'.toNat, by omega⟩
      have hk : k < c.length := by omega
      have T15 := e15.tabsL P14.only T14
      have hv15 := hv14.ext e15 P14.lsts
      have hm15 := e15.tup P14.lsts hm
      clear k0 k1 hv14 T14 P14 e15 hm hxs
      -- odd
      refine ⟨_, rfl, .tuple [.none], rfl, fun v3 H3 e3 dp3 => ⟨.tuple [.tuple [.int 0]], rfl, fun v4 H4 e4 dp4 => ⟨.tuple [.tuple [.int 1, .int 0], .tuple [.int 0, .int 0]], rfl, fun v5 H5 e5 dp5 => ⟨_, rfl, m, xs, rfl, .inr ?_, (by show 2 ≤ sizeLine; decide), fun t ht => ⟨(by show 1 ≤ sizeLine; decide), fun t2 ht2 => ⟨.tuple [.tuple [.int 100, .int 0]], rfl, fun v7 H7 e7 dp7 => ⟨.tuple [.tuple [.bool true, .int 0]], rfl, fun v8 H8 e8 dp8 => ⟨.tuple [.tuple [.int 0, .int (-1)]], rfl, fun v9 H9 e9 dp9 => ⟨(by show 9 ≤ sizeLine; decide), fun L hL => ?_⟩⟩⟩⟩⟩⟩⟩⟩⟩
      · exact (((e3.trans e4).trans e5)).tup Lsts.nil hm15
      have e35 := (e3.trans e4).trans e5
      have et : Ext [] H5 (upd (upd H5 t (.tup [.int 0, .int xs.length])) t2 (.tup [.ref t])) := (Ext.new (L := []) ht).put2 ht2
      have dp6 : Dp K (upd (upd H5 t (.tup [.int 0, .int xs.length])) t2 (.tup [.ref t])) (.ref t2) (.tuple [.tuple [.int 0, .int (c.length : Int)]]) := by
        rw [← xl]
        exact .tup (.of upd_same) (.cons (.tup (.of ((Ext.new (L := []) ht2).at upd_same (by simp))) (.cons (.int _) (.cons (.int _) .nil))) .nil)
      have hdL : DpAll K H9 [.non, .int 0, v3, v4, v5, .ref t2, v7, v8, v9] (oddL c.length) :=
        .cons .non (.cons (.int 0) (.cons (Dp.ext0 ((((((e4.trans e5).trans et).trans e7).trans e8)).trans e9) dp3) (.cons (Dp.ext0 ((((e5.trans et).trans e7).trans e8).trans e9) dp4) (.cons (Dp.ext0 (((et.trans e7).trans e8).trans e9) dp5) (.cons (Dp.ext0 ((e7.trans e8).trans e9) dp6) (.cons (Dp.ext0 (e8.trans e9) dp7) (.cons (Dp.ext0 e9 dp8) (.cons dp9 .nil))))))))
      have e19 := (((e35.trans et).trans e7).trans e8).trans e9
      have eL : Ext [] H15 (upd H9 L (.lst [.non, .int 0, v3, v4, v5, .ref t2, v7, v8, v9])) := e19.put2 hL
      have hdL := DpAll.ext0 (Ext.new (o := .lst [.non, .int 0, v3, v4, v5, .ref t2, v7, v8, v9]) hL) hdL
      have PL := P15.ext0 eL
      have offL := (P15.ext0 e19).off hL
      refine ⟨p, l, L, [.non, .int 0, v3, v4, v5, .ref t2, v7, v8, v9], rfl, PL, .of upd_same, offL.1, offL.2, (by show 0 < 9; decide), (by show 9 < 1000; decide), fun j od H16 hod P16 e16 => ?_⟩
      obtain ⟨dd, hdd, hDd⟩ := dpAll_get' hdL hod
      have bad := odd_bad dd (List.mem_of_getElem? hdd)
      have nL : noL dd = true := by
        have := List.mem_of_getElem? hdd
        simp only [oddL, List.mem_cons, List.not_mem_nil, or_false] at this
        rcases this with rfl | rfl | rfl | rfl | rfl | rfl | rfl | rfl | rfl <;> rfl
      have hDd := Dp.extL e16 PL.lsts hDd nL
      have T16 := e16.tabsL PL.only (T15.ext eL.toSame)
      have hv16 := (hv15.ext0 eL).ext e16 PL.lsts
      clear hdL hod hdd e19 eL offL dp6 dp3 dp4 dp5 dp7 dp8 dp9 e3 e4 e5 e7 e8 e9 et e35 ht ht2 hL T15 hv15 hm15 P15 PL e16
      -- bent
      obtain ⟨m', vs, em, hm16, hws⟩ := hv16.wk
      cases em
      have hds : DpAll K H16 vs (c.map stD) := dp_stsB hws
      have vl : vs.length = c.length := Paired.len hws
      clear hv16 hws
      refine ⟨_, rfl, _, rfl, _, rfl, slA hm16 fun s1 H17 hs1 e17 => ?_⟩
      rw [cutTakeN] at hs1
      refine ⟨_, rfl, (by show 1 ≤ sizeLine; decide), fun s2 hs2 => ?_⟩
      have e18 : Ext [] H17 (upd H17 s2 (.tup [od])) := .new hs2
      refine catA (e18.tup Lsts.nil hs1) (.of upd_same) (by rw [List.length_take]; show _ + 1 ≤ 1000; omega) fun s3 H19 hs3 e19 => ?_
      have f19 := (e17.trans e18).trans e19
      refine ⟨_, rfl, _, rfl, _, _, rfl, rfl, _, rfl, ?_⟩
      dsimp only [tNoPart]
      refine slA (f19.tup Lsts.nil hm16) fun s4 H20 hs4 e20 => ?_
      rw [show cutV vs (some ((k : Int) + 1)) none = vs.drop (k + 1) from cutDropN vs (k + 1)] at hs4
      refine catA (e20.tup Lsts.nil hs3) hs4 (by rw [List.length_append, List.length_take, List.length_drop]; show _ + 1 + _ ≤ 1000; omega) fun s5 H21 hs5 e21 => ?_
      have f21 := (f19.trans e20).trans e21
      have hbent : Dp K H21 (.ref s5) (.tuple ((c.map stD).take k ++ [dd] ++ (c.map stD).drop (k + 1))) :=
        .tup hs5 (DpAll.append (DpAll.append (dpAll_take k (DpAll.ext0 f21 hds)) (.cons (Dp.ext0 f21 hDd) .nil)) (dpAll_drop (k + 1) (DpAll.ext0 f21 hds)))
      have hform := bent_bad fc hk bad
      obtain ⟨D, eD⟩ : ∃ D, D = PyData.tuple ((c.map stD).take k ++ [dd] ++ (c.map stD).drop (k + 1)) := ⟨_, rfl⟩
      rw [← eD] at hbent hform
      have T21 := T16.ext f21.toSame
      have P21 := P16.ext0 f21
      clear hds hDd hm16 hs1 hs3 hs4 hs5 e17 e18 e19 e20 e21 f19 f21 T16 P16 hs2
      have shE : ∀ {z : PyData}, Sh z 0 0 → ShowOk (.tuple [.str "BadBook", z, .bool true]) := fun h => (sh_err (by decide +kernel) (by decide +kernel) (by decide +kernel) h).ok (by decide) (by decide)
      have shk := shE (Sh.nat (n := k) (by omega))
      -- trimmed(bent)
      refine ⟨T21, fun H22 eN22 T22 => heard_form T (fun E Q o => ⟨_, rfl, .ref s5, D, k, rfl, Dp.extN eN22 hbent, hform, o⟩) fun t H23 dp23 e23 => ⟨_, _, rfl, dp23, shk, .tuple [.str "BadBook", .int k, .bool true], rfl, fun u H24 e24 dp24 => ⟨_, _, rfl, dp24, shk, rfl, _, rfl, ?_⟩⟩⟩
      rw [str_ne]
      refine iteF ?_
      have eN24 := eN22.trans (ext_toN (e23.trans e24))
      have hb24 := Dp.extN eN24 hbent
      have T24 := T22.ext (e23.trans e24).toSame
      have P24 := P21.extN eN24
      clear hbent dp23 dp24 e23 e24 eN24 eN22 T22 T21 P21
      -- made_book(bent), is_book(bent)
      refine ⟨T24, fun H22 eN22 T22 => heard_form T (fun E Q o => ⟨_, rfl, .ref s5, D, _, k, rfl, Dp.extN eN22 hb24, .form hform, o⟩) fun t H23 dp23 e23 => ⟨_, _, rfl, dp23, shk, .tuple [.str "BadBook", .int k, .bool true], rfl, fun u H25 e25 dp25 => ⟨_, _, rfl, dp25, shk, rfl, _, rfl, ?_⟩⟩⟩
      rw [str_ne]
      refine iteF ?_
      have eN25 := eN22.trans (ext_toN (e23.trans e25))
      have hb25 := Dp.extN eN25 hb24
      have T25 := T22.ext (e23.trans e25).toSame
      have P25 := P24.extN eN25
      clear hb24 dp23 dp25 e23 e25 eN25 eN22 T22 T24 P24
      refine ⟨_, rfl, .ref s5, D, _, k, rfl, hb25, .form hform, fun H26 e26 => ⟨false, false, rfl, rfl, _, rfl, iteF ?_⟩⟩
      have T26 := T25.ext e26.toSame
      have P26 := P25.ext0 e26
      -- none
      refine ⟨_, rfl, noneL, rfl, (by show 6 ≤ 1000; decide), fun L2 ws H27 fL2 hL2 e27 hd27 => ?_⟩
      have wl := dpAll_len hd27
      have P27 := P26.ext0 e27
      have offL := P26.off fL2
      refine ⟨p, l, L2, ws, rfl, P27, .of hL2, offL.1, offL.2, by rw [wl]; decide, by rw [wl]; decide, fun j nv H28 hnv P28 e28 => ?_⟩
      obtain ⟨dn, hdn, hDn⟩ := dpAll_get' hd27 hnv
      have nbad := none_bad dn (List.mem_of_getElem? hdn)
      have nL : noL dn = true := by
        have := List.mem_of_getElem? hdn
        simp only [noneL, List.mem_cons, List.not_mem_nil, or_false] at this
        rcases this with rfl | rfl | rfl | rfl | rfl | rfl <;> rfl
      have hDn := Dp.extL e28 P27.lsts hDn nL
      have T28 := e28.tabsL P27.only (T26.ext e27.toSame)
      have shm := shE Sh.neg1
      refine ⟨T28, fun H29 eN29 T29 => heard_form T (fun E Q o => ⟨_, rfl, nv, dn, -1, rfl, Dp.extN eN29 hDn, nbad, o⟩) fun t H30 dp30 e30 => ⟨_, _, rfl, dp30, shm, .tuple [.str "BadBook", .int (-1), .bool true], rfl, fun u H31 e31 dp31 => ⟨_, _, rfl, dp31, shm, rfl, ?_⟩⟩⟩
      rw [str_eq]
      exact q _
end
end Nv
namespace Nv
open PySem PySem.Spec PyProof.Rows L2
section
variable {K : PySem.W.Frag} {mg : Str → Option Value} {h : Heap}
def mkDef {name : Str} {st : Stmt} {ps : List Str} {f : Addr} {oc : Value} {od an : Option Addr} {osl : Array (Option Value)} {kV doc pm cdv ct : Value} (X : K.In h) (G : h.Ns mainGlobals mg)
    (a : PySem.W.nsIn K mainGlobals name = some (some (.ref f))) (l : K.lookup f = some ⟨oc, od, .func (PySem.W.fnOf name name (defArgs st) (defBody st) (defScope st) .none kV doc pm an cdv ct), osl⟩)
    (c : PySem.W.codeIn K cdv name = true) (k : PySem.W.keepIn K (.ref f) = true)
    (b : ∀ (kV doc pm : Value) (an : Option Addr) (cdv ct : Value) (us : List Value), us.length = ps.length → bindArgs (PySem.W.fnOf name name (defArgs st) (defBody st) (defScope st) .none kV doc pm an cdv ct) ⟨us, []⟩ = pure (ps.zip us)) : DefAt K mg name st ps :=
  ⟨f, _, fun_mk l c k, PySem.W.mg_of X G a, b kV doc pm an cdv ct⟩
def mkDefD {name : Str} {st : Stmt} {ps : List Str} {v : V} {u : Value} (r : RelV v u) {f dT : Addr} {oc doc1 : Value} {od an dod : Option Addr} {osl dsl : Array (Option Value)} {dn : Nat} {kV doc pm cdv ct : Value} (X : K.In h) (G : h.Ns mainGlobals mg)
    (a : PySem.W.nsIn K mainGlobals name = some (some (.ref f))) (l : K.lookup f = some ⟨oc, od, .func (PySem.W.fnOf name name (defArgs st) (defBody st) (defScope st) (.ref dT) kV doc pm an cdv ct), osl⟩)
    (c : PySem.W.codeIn K cdv name = true) (k : PySem.W.keepIn K (.ref f) = true) (d : K.lookup dT = some ⟨doc1, dod, .seq #[u] dn, dsl⟩) (n : Nat) (hn : n + 1 = ps.length)
    (b : ∀ (T : Addr) (kV doc pm : Value) (an : Option Addr) (cdv ct : Value) (us its : List Value), us.length = n → its.length = 1 →
      ∃ k, bindArgs (PySem.W.fnOf name name (defArgs st) (defBody st) (defScope st) (.ref T) kV doc pm an cdv ct) ⟨us, []⟩ = seqItems? (.ref T) >>= k ∧ k (some its.toArray) = pure (ps.zip (us ++ its.drop 0)))
    (b1 : ∀ (T : Addr) (kV doc pm : Value) (an : Option Addr) (cdv ct : Value) (us its : List Value), us.length = n + 1 → its.length = 1 →
      ∃ k, bindArgs (PySem.W.fnOf name name (defArgs st) (defBody st) (defScope st) (.ref T) kV doc pm an cdv ct) ⟨us, []⟩ = seqItems? (.ref T) >>= k ∧ k (some its.toArray) = pure (ps.zip (us ++ its.drop 1))) : DefAtD K mg name st ps [v] := by
  have F : FunD K name name (defArgs st) (defBody st) (defScope st) [v] [] f _ := ⟨⟨oc, od, .ref dT, kV, doc, pm, an, cdv, ct, osl, rfl, l, c, .inr ⟨by nofun, dT, _, [u], dn, rfl, d, rfl, .cons r .nil⟩, .inl rfl⟩, k⟩
  refine ⟨f, _, ⟨F⟩, PySem.W.mg_of X G a, ?_, F.binds1 n 0 (by nofun) (by simpa using hn) b⟩
  obtain ⟨ds, hv, hb⟩ := F.binds1 (n + 1) 1 (by nofun) (by simpa using hn) b1
  cases hv
  exact hb
end

set_option maxHeartbeats 0 in
theorem all_mk {l : PySem.W.OpenLaw} {w : World} {K : PySem.W.Frag} {h : Heap} {mg : Str → Option Value} {fa : Addr} (X : K.In h) (G : h.Ns mainGlobals mg) (hfa : mg "law" = some (.ref fa))
    {f0 : Addr} {oc0 kV0 dc0 pm0 cd0 ct0 : Value} {od0 an0 : Option Addr} {sl0 : Array (Option Value)}
    {f1 : Addr} {oc1 kV1 dc1 pm1 cd1 ct1 : Value} {od1 an1 : Option Addr} {sl1 : Array (Option Value)}
    {f2 : Addr} {oc2 kV2 dc2 pm2 cd2 ct2 : Value} {od2 an2 : Option Addr} {sl2 : Array (Option Value)}
    {f3 : Addr} {oc3 kV3 dc3 pm3 cd3 ct3 : Value} {od3 an3 : Option Addr} {sl3 : Array (Option Value)} {zT3 : Addr} {zc3 : Value} {zo3 : Option Addr} {zs3 : Array (Option Value)} {zn3 : Nat} {zk3 : Tok}
    {f4 : Addr} {oc4 kV4 dc4 pm4 cd4 ct4 : Value} {od4 an4 : Option Addr} {sl4 : Array (Option Value)}
    {f5 : Addr} {oc5 kV5 dc5 pm5 cd5 ct5 : Value} {od5 an5 : Option Addr} {sl5 : Array (Option Value)}
    {f6 : Addr} {oc6 kV6 dc6 pm6 cd6 ct6 : Value} {od6 an6 : Option Addr} {sl6 : Array (Option Value)}
    {f7 : Addr} {oc7 kV7 dc7 pm7 cd7 ct7 : Value} {od7 an7 : Option Addr} {sl7 : Array (Option Value)}
    {f8 : Addr} {oc8 kV8 dc8 pm8 cd8 ct8 : Value} {od8 an8 : Option Addr} {sl8 : Array (Option Value)}
    {f9 : Addr} {oc9 kV9 dc9 pm9 cd9 ct9 : Value} {od9 an9 : Option Addr} {sl9 : Array (Option Value)}
    {f10 : Addr} {oc10 kV10 dc10 pm10 cd10 ct10 : Value} {od10 an10 : Option Addr} {sl10 : Array (Option Value)}
    {f11 : Addr} {oc11 kV11 dc11 pm11 cd11 ct11 : Value} {od11 an11 : Option Addr} {sl11 : Array (Option Value)}
    {f12 : Addr} {oc12 kV12 dc12 pm12 cd12 ct12 : Value} {od12 an12 : Option Addr} {sl12 : Array (Option Value)}
    {f13 : Addr} {oc13 kV13 dc13 pm13 cd13 ct13 : Value} {od13 an13 : Option Addr} {sl13 : Array (Option Value)}
    {f14 : Addr} {oc14 kV14 dc14 pm14 cd14 ct14 : Value} {od14 an14 : Option Addr} {sl14 : Array (Option Value)}
    {f15 : Addr} {oc15 kV15 dc15 pm15 cd15 ct15 : Value} {od15 an15 : Option Addr} {sl15 : Array (Option Value)}
    {f16 : Addr} {oc16 kV16 dc16 pm16 cd16 ct16 : Value} {od16 an16 : Option Addr} {sl16 : Array (Option Value)}
    {f17 : Addr} {oc17 kV17 dc17 pm17 cd17 ct17 : Value} {od17 an17 : Option Addr} {sl17 : Array (Option Value)}
    {f18 : Addr} {oc18 kV18 dc18 pm18 cd18 ct18 : Value} {od18 an18 : Option Addr} {sl18 : Array (Option Value)}
    {f19 : Addr} {oc19 kV19 dc19 pm19 cd19 ct19 : Value} {od19 an19 : Option Addr} {sl19 : Array (Option Value)}
    {f20 : Addr} {oc20 kV20 dc20 pm20 cd20 ct20 : Value} {od20 an20 : Option Addr} {sl20 : Array (Option Value)}
    {f21 : Addr} {oc21 kV21 dc21 pm21 ct21 : Value} {od21 an21 : Option Addr} {sl21 : Array (Option Value)} {cL1 pL1 : Addr} {vc1 : Value} {vd1 : Option Addr} {vs1 : Array Value} {vl1 : Array (Option Value)}
    {f22 : Addr} {oc22 kV22 dc22 pm22 ct22 : Value} {od22 an22 : Option Addr} {sl22 : Array (Option Value)} {cL0 pL0 : Addr} {vc0 : Value} {vd0 : Option Addr} {vs0 : Array Value} {vl0 : Array (Option Value)}
    {fI : Addr} {ocI kVI dcI pmI cdI ctI : Value} {odI anI : Option Addr} {slI : Array (Option Value)}
    {C0 R0 N0 : Addr} {nm0 q0 : Str} {bs0 : List Value} {sn0 : List Str} {sub0 : List Value} {ab0 : Bool} {col0 : Option Bool} {dd0 : Option Addr} {m00 m10 m30 m50 : Option Value} {mt0 : Tok}
    {C1 R1 N1 : Addr} {nm1 q1 : Str} {bs1 : List Value} {sn1 : List Str} {sub1 : List Value} {ab1 : Bool} {col1 : Option Bool} {dd1 : Option Addr} {m01 m11 m31 m51 : Option Value} {mt1 : Tok}
    {CR : Addr}
    {t0 : Tok}
    {t1 : Tok}
    {t2 : Tok}
    (a0 : PySem.W.nsIn K mainGlobals "whole" = some (some (.ref f0))) (l0 : K.lookup f0 = some ⟨oc0, od0, .func (PySem.W.fnOf "whole" "whole" (defArgs s_whole) (defBody s_whole) (defScope s_whole) .none kV0 dc0 pm0 an0 cd0 ct0), sl0⟩) (c0 : PySem.W.codeIn K cd0 "whole" = true) (k0 : PySem.W.keepIn K (.ref f0) = true)
    (a1 : PySem.W.nsIn K mainGlobals "whole_within" = some (some (.ref f1))) (l1 : K.lookup f1 = some ⟨oc1, od1, .func (PySem.W.fnOf "whole_within" "whole_within" (defArgs s_whole_within) (defBody s_whole_within) (defScope s_whole_within) .none kV1 dc1 pm1 an1 cd1 ct1), sl1⟩) (c1 : PySem.W.codeIn K cd1 "whole_within" = true) (k1 : PySem.W.keepIn K (.ref f1) = true)
    (a2 : PySem.W.nsIn K mainGlobals "tuple_within" = some (some (.ref f2))) (l2 : K.lookup f2 = some ⟨oc2, od2, .func (PySem.W.fnOf "tuple_within" "tuple_within" (defArgs s_tuple_within) (defBody s_tuple_within) (defScope s_tuple_within) .none kV2 dc2 pm2 an2 cd2 ct2), sl2⟩) (c2 : PySem.W.codeIn K cd2 "tuple_within" = true) (k2 : PySem.W.keepIn K (.ref f2) = true)
    (a3 : PySem.W.nsIn K mainGlobals "first_rows" = some (some (.ref f3))) (l3 : K.lookup f3 = some ⟨oc3, od3, .func (PySem.W.fnOf "first_rows" "first_rows" (defArgs s_first_rows) (defBody s_first_rows) (defScope s_first_rows) (.ref zT3) kV3 dc3 pm3 an3 cd3 ct3), sl3⟩) (c3 : PySem.W.codeIn K cd3 "first_rows" = true) (k3 : PySem.W.keepIn K (.ref f3) = true)
    (df3 : K.lookup zT3 = some ⟨zc3, zo3, .seq #[.int 0 zk3] zn3, zs3⟩)
    (a4 : PySem.W.nsIn K mainGlobals "by_meeting" = some (some (.ref f4))) (l4 : K.lookup f4 = some ⟨oc4, od4, .func (PySem.W.fnOf "by_meeting" "by_meeting" (defArgs s_by_meeting) (defBody s_by_meeting) (defScope s_by_meeting) .none kV4 dc4 pm4 an4 cd4 ct4), sl4⟩) (c4 : PySem.W.codeIn K cd4 "by_meeting" = true) (k4 : PySem.W.keepIn K (.ref f4) = true)
    (a5 : PySem.W.nsIn K mainGlobals "made_book" = some (some (.ref f5))) (l5 : K.lookup f5 = some ⟨oc5, od5, .func (PySem.W.fnOf "made_book" "made_book" (defArgs s_made_book) (defBody s_made_book) (defScope s_made_book) .none kV5 dc5 pm5 an5 cd5 ct5), sl5⟩) (c5 : PySem.W.codeIn K cd5 "made_book" = true) (k5 : PySem.W.keepIn K (.ref f5) = true)
    (a6 : PySem.W.nsIn K mainGlobals "is_book" = some (some (.ref f6))) (l6 : K.lookup f6 = some ⟨oc6, od6, .func (PySem.W.fnOf "is_book" "is_book" (defArgs s_is_book) (defBody s_is_book) (defScope s_is_book) .none kV6 dc6 pm6 an6 cd6 ct6), sl6⟩) (c6 : PySem.W.codeIn K cd6 "is_book" = true) (k6 : PySem.W.keepIn K (.ref f6) = true)
    (a7 : PySem.W.nsIn K mainGlobals "trimmed" = some (some (.ref f7))) (l7 : K.lookup f7 = some ⟨oc7, od7, .func (PySem.W.fnOf "trimmed" "trimmed" (defArgs s_trimmed) (defBody s_trimmed) (defScope s_trimmed) .none kV7 dc7 pm7 an7 cd7 ct7), sl7⟩) (c7 : PySem.W.codeIn K cd7 "trimmed" = true) (k7 : PySem.W.keepIn K (.ref f7) = true)
    (a8 : PySem.W.nsIn K mainGlobals "check_form" = some (some (.ref f8))) (l8 : K.lookup f8 = some ⟨oc8, od8, .func (PySem.W.fnOf "check_form" "check_form" (defArgs s_check_form) (defBody s_check_form) (defScope s_check_form) .none kV8 dc8 pm8 an8 cd8 ct8), sl8⟩) (c8 : PySem.W.codeIn K cd8 "check_form" = true) (k8 : PySem.W.keepIn K (.ref f8) = true)
    (a9 : PySem.W.nsIn K mainGlobals "has_state_form" = some (some (.ref f9))) (l9 : K.lookup f9 = some ⟨oc9, od9, .func (PySem.W.fnOf "has_state_form" "has_state_form" (defArgs s_has_state_form) (defBody s_has_state_form) (defScope s_has_state_form) .none kV9 dc9 pm9 an9 cd9 ct9), sl9⟩) (c9 : PySem.W.codeIn K cd9 "has_state_form" = true) (k9 : PySem.W.keepIn K (.ref f9) = true)
    (a10 : PySem.W.nsIn K mainGlobals "_law_pool" = some (some (.ref f10))) (l10 : K.lookup f10 = some ⟨oc10, od10, .func (PySem.W.fnOf "_law_pool" "_law_pool" (defArgs s_law_pool) (defBody s_law_pool) (defScope s_law_pool) .none kV10 dc10 pm10 an10 cd10 ct10), sl10⟩) (c10 : PySem.W.codeIn K cd10 "_law_pool" = true) (k10 : PySem.W.keepIn K (.ref f10) = true)
    (a11 : PySem.W.nsIn K mainGlobals "_law_draw" = some (some (.ref f11))) (l11 : K.lookup f11 = some ⟨oc11, od11, .func (PySem.W.fnOf "_law_draw" "_law_draw" (defArgs s_law_draw) (defBody s_law_draw) (defScope s_law_draw) .none kV11 dc11 pm11 an11 cd11 ct11), sl11⟩) (c11 : PySem.W.codeIn K cd11 "_law_draw" = true) (k11 : PySem.W.keepIn K (.ref f11) = true)
    (a12 : PySem.W.nsIn K mainGlobals "_law_pick" = some (some (.ref f12))) (l12 : K.lookup f12 = some ⟨oc12, od12, .func (PySem.W.fnOf "_law_pick" "_law_pick" (defArgs s_law_pick) (defBody s_law_pick) (defScope s_law_pick) .none kV12 dc12 pm12 an12 cd12 ct12), sl12⟩) (c12 : PySem.W.codeIn K cd12 "_law_pick" = true) (k12 : PySem.W.keepIn K (.ref f12) = true)
    (a13 : PySem.W.nsIn K mainGlobals "_law_turned" = some (some (.ref f13))) (l13 : K.lookup f13 = some ⟨oc13, od13, .func (PySem.W.fnOf "_law_turned" "_law_turned" (defArgs s_law_turned) (defBody s_law_turned) (defScope s_law_turned) .none kV13 dc13 pm13 an13 cd13 ct13), sl13⟩) (c13 : PySem.W.codeIn K cd13 "_law_turned" = true) (k13 : PySem.W.keepIn K (.ref f13) = true)
    (a14 : PySem.W.nsIn K mainGlobals "_law_book_meeting" = some (some (.ref f14))) (l14 : K.lookup f14 = some ⟨oc14, od14, .func (PySem.W.fnOf "_law_book_meeting" "_law_book_meeting" (defArgs s_law_book_meeting) (defBody s_law_book_meeting) (defScope s_law_book_meeting) .none kV14 dc14 pm14 an14 cd14 ct14), sl14⟩) (c14 : PySem.W.codeIn K cd14 "_law_book_meeting" = true) (k14 : PySem.W.keepIn K (.ref f14) = true)
    (a15 : PySem.W.nsIn K mainGlobals "_law_book_messages" = some (some (.ref f15))) (l15 : K.lookup f15 = some ⟨oc15, od15, .func (PySem.W.fnOf "_law_book_messages" "_law_book_messages" (defArgs s_law_book_messages) (defBody s_law_book_messages) (defScope s_law_book_messages) .none kV15 dc15 pm15 an15 cd15 ct15), sl15⟩) (c15 : PySem.W.codeIn K cd15 "_law_book_messages" = true) (k15 : PySem.W.keepIn K (.ref f15) = true)
    (a16 : PySem.W.nsIn K mainGlobals "_law_book_drawn" = some (some (.ref f16))) (l16 : K.lookup f16 = some ⟨oc16, od16, .func (PySem.W.fnOf "_law_book_drawn" "_law_book_drawn" (defArgs s_law_book_drawn) (defBody s_law_book_drawn) (defScope s_law_book_drawn) .none kV16 dc16 pm16 an16 cd16 ct16), sl16⟩) (c16 : PySem.W.codeIn K cd16 "_law_book_drawn" = true) (k16 : PySem.W.keepIn K (.ref f16) = true)
    (a17 : PySem.W.nsIn K mainGlobals "_law_book_renamed" = some (some (.ref f17))) (l17 : K.lookup f17 = some ⟨oc17, od17, .func (PySem.W.fnOf "_law_book_renamed" "_law_book_renamed" (defArgs s_law_book_renamed) (defBody s_law_book_renamed) (defScope s_law_book_renamed) .none kV17 dc17 pm17 an17 cd17 ct17), sl17⟩) (c17 : PySem.W.codeIn K cd17 "_law_book_renamed" = true) (k17 : PySem.W.keepIn K (.ref f17) = true)
    (a18 : PySem.W.nsIn K mainGlobals "_law_heard" = some (some (.ref f18))) (l18 : K.lookup f18 = some ⟨oc18, od18, .func (PySem.W.fnOf "_law_heard" "_law_heard" (defArgs s_law_heard) (defBody s_law_heard) (defScope s_law_heard) .none kV18 dc18 pm18 an18 cd18 ct18), sl18⟩) (c18 : PySem.W.codeIn K cd18 "_law_heard" = true) (k18 : PySem.W.keepIn K (.ref f18) = true)
    (a19 : PySem.W.nsIn K mainGlobals "_law_with_strays" = some (some (.ref f19))) (l19 : K.lookup f19 = some ⟨oc19, od19, .func (PySem.W.fnOf "_law_with_strays" "_law_with_strays" (defArgs s_law_with_strays) (defBody s_law_with_strays) (defScope s_law_with_strays) .none kV19 dc19 pm19 an19 cd19 ct19), sl19⟩) (c19 : PySem.W.codeIn K cd19 "_law_with_strays" = true) (k19 : PySem.W.keepIn K (.ref f19) = true)
    (a20 : PySem.W.nsIn K mainGlobals "_law_by_rows" = some (some (.ref f20))) (l20 : K.lookup f20 = some ⟨oc20, od20, .func (PySem.W.fnOf "_law_by_rows" "_law_by_rows" (defArgs s_law_by_rows) (defBody s_law_by_rows) (defScope s_law_by_rows) .none kV20 dc20 pm20 an20 cd20 ct20), sl20⟩) (c20 : PySem.W.codeIn K cd20 "_law_by_rows" = true) (k20 : PySem.W.keepIn K (.ref f20) = true)
    (a21 : PySem.W.nsIn K mainGlobals "_law_trimmed_right" = some (some (.ref f21))) (l21 : K.lookup f21 = some ⟨oc21, od21, .func (PySem.W.fnOf "_law_trimmed_right" "_law_trimmed_right" (defArgs s_law_trimmed_right) (defBody s_law_trimmed_right) (defScope s_law_trimmed_right) .none kV21 dc21 pm21 an21 (.ref cL1) ct21), sl21⟩) (c21 : PySem.W.codeIn K (.ref cL1) "_law_trimmed_right" = true) (k21 : PySem.W.keepIn K (.ref f21) = true)
    (tbO1 : K.lookup cL1 = some ⟨vc1, vd1, .fields vs1, vl1⟩) (tbV1 : vs1[11]? = some (.ref pL1))
    (tbC1 : PySem.W.codeHdIn K cL1 pL1 = true) (tbN1 : K.lookup pL1 = none)
    (a22 : PySem.W.nsIn K mainGlobals "law" = some (some (.ref f22))) (l22 : K.lookup f22 = some ⟨oc22, od22, .func (PySem.W.fnOf "law" "law" (defArgs s_law) (defBody s_law) (defScope s_law) .none kV22 dc22 pm22 an22 (.ref cL0) ct22), sl22⟩) (c22 : PySem.W.codeIn K (.ref cL0) "law" = true) (k22 : PySem.W.keepIn K (.ref f22) = true)
    (tbO0 : K.lookup cL0 = some ⟨vc0, vd0, .fields vs0, vl0⟩) (tbV0 : vs0[11]? = some (.ref pL0))
    (tbC0 : PySem.W.codeHdIn K cL0 pL0 = true) (tbN0 : K.lookup pL0 = none)
    (lI : K.lookup fI = some ⟨ocI, odI, .func (PySem.W.fnOf "__init__" "Refused.__init__" (defArgs s_init) (defBody s_init) (defScope s_init) .none kVI dcI pmI anI cdI ctI), slI⟩) (cI : PySem.W.codeIn K cdI "Refused.__init__" = true) (kI : PySem.W.keepIn K (.ref fI) = true) (tI : PySem.W.typeIn K (.ref fI) = some (.type "function"))
    (xg0 : PySem.W.nsIn K mainGlobals "BadBook" = some (some (.ref C0))) (xl0 : K.lookup C0 = some (excClassObj nm0 q0 C0 N0 bs0 [.ref R0, .type "ValueError", .type "Exception", .type "BaseException", .type "object"] true sn0 sub0 ab0 col0 dd0 m00 m10 (some (.str "BadBook" mt0)) m30 m50 "ValueError.__new__"))
    (xs0 : PySem.W.findIn K (.ref C0) "__setattr__" = some (some (.builtin "object.__setattr__"))) (xe0 : PySem.W.subIn K (.ref C0) (.type "BaseException") = some true) (xt0 : PySem.W.typeIn K (.ref C0) = some (.type "type")) (xk0 : PySem.W.keepIn K (.ref C0) = true)
    (xi0 : PySem.W.findIn K (.ref C0) "__init__" = some (some (.ref fI))) (xa0 : PySem.W.findIn K (.ref C0) "__getattribute__" = some (some (.builtin "BaseException.__getattribute__"))) (xb0 : PySem.W.findIn K (.ref C0) "__getattr__" = some none) (xw0 : PySem.W.findIn K (.ref C0) "what" = some none) (xh0 : PySem.W.hasDictIn K C0 = true) (xc0 : PySem.W.isClsIn K C0 = true)
    (xm0 : PySem.W.mroIn K C0 (.type "object") = some true) (xr0 : PySem.W.readsIn K C0 (.type "type") = true) (xf0 : PySem.W.findCls K (.ref C0) (.type "type") "__name__" = some (.get (.builtin "getset_descriptor.__get__") (.builtin "type.__name__") (.ref C0) (.type "type"))) (xn0 : PySem.W.findIn K (.ref C0) "kind" = some none) (xo0 : PySem.W.findIn K (.ref C0) "__class__" = some (some (.builtin "object.__class__")))
    (xg1 : PySem.W.nsIn K mainGlobals "Stray" = some (some (.ref C1))) (xl1 : K.lookup C1 = some (excClassObj nm1 q1 C1 N1 bs1 [.ref R1, .type "ValueError", .type "Exception", .type "BaseException", .type "object"] true sn1 sub1 ab1 col1 dd1 m01 m11 (some (.str "Stray" mt1)) m31 m51 "ValueError.__new__"))
    (xs1 : PySem.W.findIn K (.ref C1) "__setattr__" = some (some (.builtin "object.__setattr__"))) (xe1 : PySem.W.subIn K (.ref C1) (.type "BaseException") = some true) (xt1 : PySem.W.typeIn K (.ref C1) = some (.type "type")) (xk1 : PySem.W.keepIn K (.ref C1) = true)
    (xi1 : PySem.W.findIn K (.ref C1) "__init__" = some (some (.ref fI))) (xa1 : PySem.W.findIn K (.ref C1) "__getattribute__" = some (some (.builtin "BaseException.__getattribute__"))) (xb1 : PySem.W.findIn K (.ref C1) "__getattr__" = some none) (xw1 : PySem.W.findIn K (.ref C1) "what" = some none) (xh1 : PySem.W.hasDictIn K C1 = true) (xc1 : PySem.W.isClsIn K C1 = true)
    (xm1 : PySem.W.mroIn K C1 (.type "object") = some true) (xr1 : PySem.W.readsIn K C1 (.type "type") = true) (xf1 : PySem.W.findCls K (.ref C1) (.type "type") "__name__" = some (.get (.builtin "getset_descriptor.__get__") (.builtin "type.__name__") (.ref C1) (.type "type"))) (xn1 : PySem.W.findIn K (.ref C1) "kind" = some none) (xo1 : PySem.W.findIn K (.ref C1) "__class__" = some (some (.builtin "object.__class__")))
    (zcn : PySem.W.specialIn K (.builtin "object.__class__") "__get__" = some (some (.builtin "getset_descriptor.__get__"))) (zct : PySem.W.takesIn K (.builtin "object.__class__") = some true)
    (ps_BadBook_BadBook : PySem.W.subIn K (.ref C0) (.ref C0) = some true)
    (ps_Stray_BadBook : PySem.W.subIn K (.ref C1) (.ref C0) = some false)
    (ps_Stray_Stray : PySem.W.subIn K (.ref C1) (.ref C1) = some true)
    (rg : PySem.W.nsIn K mainGlobals "Refused" = some (some (.ref CR))) (rc : PySem.W.isClsIn K CR = true) (rt : PySem.W.typeIn K (.ref CR) = some (.type "type")) (rb : PySem.W.subIn K (.ref CR) (.type "BaseException") = some true)
    (rq0 : PySem.W.subIn K (.ref C0) (.ref CR) = some true) (rv0 : PySem.W.subIn K (.ref C0) (.type "ValueError") = some true)
    (rq1 : PySem.W.subIn K (.ref C1) (.ref CR) = some true) (rv1 : PySem.W.subIn K (.ref C1) (.type "ValueError") = some true)
    (z0 : PySem.W.nsIn K mainGlobals "isinstance" = some none)
    (z1 : PySem.W.nsIn K mainGlobals "int" = some none)
    (z2 : PySem.W.nsIn K mainGlobals "bool" = some none)
    (z3 : PySem.W.nsIn K mainGlobals "tuple" = some none)
    (z4 : PySem.W.nsIn K mainGlobals "len" = some none)
    (z5 : PySem.W.nsIn K mainGlobals "list" = some none)
    (z6 : PySem.W.nsIn K mainGlobals "enumerate" = some none)
    (z7 : PySem.W.nsIn K mainGlobals "range" = some none)
    (z8 : PySem.W.nsIn K mainGlobals "sorted" = some none)
    (z9 : PySem.W.nsIn K mainGlobals "min" = some none)
    (z10 : PySem.W.nsIn K mainGlobals "ValueError" = some none)
    (z11 : PySem.W.nsIn K mainGlobals "repr" = some none)
    (y0 : PySem.W.nsIn K mainGlobals "MOST_STATES" = some (some (.int 8 t0)))
    (y1 : PySem.W.nsIn K mainGlobals "MOST_MESSAGES" = some (some (.int 5 t1)))
    (y2 : PySem.W.nsIn K mainGlobals "GREATEST_MESSAGE" = some (some (.int 99 t2)))
    (tbD0_1 : (pL0 == pL1) = false)
    : (∀ p ∈ [(cL0, pL0), (cL1, pL1)], K.lookup p.2 = none ∧ PySem.W.codeHdIn K p.1 p.2 = true) ∧ ∃ fd : FuncData, (∀ (s : Shared) (v : Value), BindsTo s fd ⟨[v], []⟩ [("script", v)]) ∧ ∀ base : Heap, K.In base → base.Ns mainGlobals mg → (∀ p ∈ [(cL0, pL0), (cL1, pL1)], LamX.TabB base mg p.1 p.2) → FnG l.prog w K mg base CX0 11 fa fd ["script"] (spLaw K [(cL0, pL0), (cL1, pL1)]) := by
  have T : Tx K mg := {
    whole := mkDef X G a0 l0 c0 k0 fun _ _ _ _ _ _ us hl => match us, hl with | [_], _ => rfl
    whole_within := mkDef X G a1 l1 c1 k1 fun _ _ _ _ _ _ us hl => match us, hl with | [_, _, _], _ => rfl
    tuple_within := mkDef X G a2 l2 c2 k2 fun _ _ _ _ _ _ us hl => match us, hl with | [_, _, _], _ => rfl
    first_rows := mkDefD ⟨zk3, rfl⟩ X G a3 l3 c3 k3 df3 1 rfl (fun _ _ _ _ _ _ _ us its h1 h2 => match us, its, h1, h2 with | [_], [_], _, _ => ⟨_, rfl, rfl⟩) (fun _ _ _ _ _ _ _ us its h1 h2 => match us, its, h1, h2 with | [_, _], [_], _, _ => ⟨_, rfl, rfl⟩)
    by_meeting := mkDef X G a4 l4 c4 k4 fun _ _ _ _ _ _ us hl => match us, hl with | [_], _ => rfl
    made_book := mkDef X G a5 l5 c5 k5 fun _ _ _ _ _ _ us hl => match us, hl with | [_], _ => rfl
    is_book := mkDef X G a6 l6 c6 k6 fun _ _ _ _ _ _ us hl => match us, hl with | [_], _ => rfl
    trimmed := mkDef X G a7 l7 c7 k7 fun _ _ _ _ _ _ us hl => match us, hl with | [_], _ => rfl
    check_form := mkDef X G a8 l8 c8 k8 fun _ _ _ _ _ _ us hl => match us, hl with | [_], _ => rfl
    has_state_form := mkDef X G a9 l9 c9 k9 fun _ _ _ _ _ _ us hl => match us, hl with | [_, _], _ => rfl
    law_pool := mkDef X G a10 l10 c10 k10 fun _ _ _ _ _ _ us hl => match us, hl with | [_], _ => rfl
    law_draw := mkDef X G a11 l11 c11 k11 fun _ _ _ _ _ _ us hl => match us, hl with | [_, _], _ => rfl
    law_pick := mkDef X G a12 l12 c12 k12 fun _ _ _ _ _ _ us hl => match us, hl with | [_, _], _ => rfl
    law_turned := mkDef X G a13 l13 c13 k13 fun _ _ _ _ _ _ us hl => match us, hl with | [_, _], _ => rfl
    law_book_meeting := mkDef X G a14 l14 c14 k14 fun _ _ _ _ _ _ us hl => match us, hl with | [_], _ => rfl
    law_book_messages := mkDef X G a15 l15 c15 k15 fun _ _ _ _ _ _ us hl => match us, hl with | [_, _], _ => rfl
    law_book_drawn := mkDef X G a16 l16 c16 k16 fun _ _ _ _ _ _ us hl => match us, hl with | [_, _, _], _ => rfl
    law_book_renamed := mkDef X G a17 l17 c17 k17 fun _ _ _ _ _ _ us hl => match us, hl with | [_, _], _ => rfl
    law_heard := mkDef X G a18 l18 c18 k18 fun _ _ _ _ _ _ us hl => match us, hl with | [_], _ => rfl
    law_with_strays := mkDef X G a19 l19 c19 k19 fun _ _ _ _ _ _ us hl => match us, hl with | [_, _], _ => rfl
    law_by_rows := mkDef X G a20 l20 c20 k20 fun _ _ _ _ _ _ us hl => match us, hl with | [_], _ => rfl
    law_trimmed_right := mkDef X G a21 l21 c21 k21 fun _ _ _ _ _ _ us hl => match us, hl with | [_, _], _ => rfl
    law := mkDef X G a22 l22 c22 k22 fun _ _ _ _ _ _ us hl => match us, hl with | [_], _ => rfl
    init := ⟨fI, _, fun_mk lI cI kI, tI, fun us hl => match us, hl with | [_, _], _ => rfl⟩
    x_BadBook := ⟨C0, PySem.W.mg_of X G xg0, ⟨⟨_, _, _, _, _, _, _, _, _, _, _, _, _, _, _, xl0, (show PySem.HandSPX.refsVE [.type "ValueError", .type "Exception", .type "BaseException", .type "object"] = true by decide +kernel)⟩, xs0, xe0, xt0, xk0⟩, xi0, xa0, xb0, xw0, ⟨xa0, xb0, xe0, xc0, xo0, zcn, zct, xm0, xr0, xf0, ⟨_, _, _, _, mt0, xl0, rfl⟩, xn0⟩, xh0, xc0⟩
    x_Stray := ⟨C1, PySem.W.mg_of X G xg1, ⟨⟨_, _, _, _, _, _, _, _, _, _, _, _, _, _, _, xl1, (show PySem.HandSPX.refsVE [.type "ValueError", .type "Exception", .type "BaseException", .type "object"] = true by decide +kernel)⟩, xs1, xe1, xt1, xk1⟩, xi1, xa1, xb1, xw1, ⟨xa1, xb1, xe1, xc1, xo1, zcn, zct, xm1, xr1, xf1, ⟨_, _, _, _, mt1, xl1, rfl⟩, xn1⟩, xh1, xc1⟩
    s_BadBook_BadBook := ps_BadBook_BadBook
    s_Stray_BadBook := ps_Stray_BadBook
    s_Stray_Stray := ps_Stray_Stray
    r_Refused := ⟨CR, PySem.W.mg_of X G rg, rc, rt, rb⟩
    q_BadBook := rq0
    v_BadBook := rv0
    q_Stray := rq1
    v_Stray := rv1
    n_isinstance := PySem.W.mg_none_of X G z0
    n_int := PySem.W.mg_none_of X G z1
    n_bool := PySem.W.mg_none_of X G z2
    n_tuple := PySem.W.mg_none_of X G z3
    n_len := PySem.W.mg_none_of X G z4
    n_list := PySem.W.mg_none_of X G z5
    n_enumerate := PySem.W.mg_none_of X G z6
    n_range := PySem.W.mg_none_of X G z7
    n_sorted := PySem.W.mg_none_of X G z8
    n_min := PySem.W.mg_none_of X G z9
    n_ValueError := PySem.W.mg_none_of X G z10
    n_repr := PySem.W.mg_none_of X G z11
    c_MOST_STATES := ⟨_, PySem.W.mg_of X G y0⟩
    c_MOST_MESSAGES := ⟨_, PySem.W.mg_of X G y1⟩
    c_GREATEST_MESSAGE := ⟨_, PySem.W.mg_of X G y2⟩
  }
  have gl : T.law.f = fa := Value.ref.inj (Option.some.inj (T.law.g.symm.trans hfa))
  refine ⟨fun p hp => ?_, ?_⟩
  · simp only [List.mem_cons, List.not_mem_nil, or_false] at hp
    rcases hp with rfl | rfl
    · exact ⟨tbN0, tbC0⟩
    · exact ⟨tbN1, tbC1⟩
  obtain rfl : f22 = fa := Value.ref.inj (Option.some.inj ((PySem.W.mg_of X G a22).symm.trans hfa))
  refine ⟨PySem.W.fnOf "law" "law" (defArgs s_law) (defBody s_law) (defScope s_law) .none kV22 dc22 pm22 an22 (.ref cL0) ct22, fun s v => .of_eq rfl, fun base _ _ TB => ?_⟩
  have gr0 : T.law.f = f22 := Value.ref.inj (Option.some.inj (T.law.g.symm.trans (PySem.W.mg_of X G a22)))
  have gr1 : T.law_trimmed_right.f = f21 := Value.ref.inj (Option.some.inj (T.law_trimmed_right.g.symm.trans (PySem.W.mg_of X G a21)))
  have r := ok_law (P := l.prog) (w := w) (base := base) T (by rw [gr0]; exact l22) c22 (TB (cL0, pL0) (by simp)) (by rw [gr1]; exact l21) c21 (TB (cL1, pL1) (by simp)) (fun z => by have z : pL0 = pL1 := z; rw [z] at tbD0_1; simp at tbD0_1)
  rw [gl] at r
  exact r
end Nv
open PySem PySem.W PyProof.Rows
set_option maxRecDepth 100000 in
set_option maxHeartbeats 0 in
theorem PySem.Challenge.cw_neverfour_k02_strays_and_meeting_holds : PySem.Challenge.rw_neverfour_k02_strays_and_meeting.Holds := by
  w_on; o_law; k_head; (case hw => w_witness2)
  k_fill
  refine' Nv.endGTs (Ts := [(?tc0, ?tp0), (?tc1, ?tp1)]) (l := PySem.Challenge.rw_neverfour_k02_strays_and_meeting) (n := 63) (k := 11) (x := "script") (sp := Nv.spLaw) rfl (by decide) rfl ⟨rfl, by decide, by decide⟩ (fun w h Y => PySem.W.km_in_of Y) ?HP ?F (fun _ _ a ns hl hS hP => ⟨a, ns, rfl, hS, hl, hP, fun _ => rfl⟩)
  case F =>
    intro w mg fa h KX G hmg
    refine' Nv.all_mk KX G hmg ?a0 ?l0 ?c0 ?k0 ?a1 ?l1 ?c1 ?k1 ?a2 ?l2 ?c2 ?k2 ?a3 ?l3 ?c3 ?k3 ?df3 ?a4 ?l4 ?c4 ?k4 ?a5 ?l5 ?c5 ?k5 ?a6 ?l6 ?c6 ?k6 ?a7 ?l7 ?c7 ?k7 ?a8 ?l8 ?c8 ?k8 ?a9 ?l9 ?c9 ?k9 ?a10 ?l10 ?c10 ?k10 ?a11 ?l11 ?c11 ?k11 ?a12 ?l12 ?c12 ?k12 ?a13 ?l13 ?c13 ?k13 ?a14 ?l14 ?c14 ?k14 ?a15 ?l15 ?c15 ?k15 ?a16 ?l16 ?c16 ?k16 ?a17 ?l17 ?c17 ?k17 ?a18 ?l18 ?c18 ?k18 ?a19 ?l19 ?c19 ?k19 ?a20 ?l20 ?c20 ?k20 ?a21 ?l21 ?c21 ?k21 ?tbO1 ?tbV1 ?tbC1 ?tbN1 ?a22 ?l22 ?c22 ?k22 ?tbO0 ?tbV0 ?tbC0 ?tbN0 ?lI ?cI ?kI ?tI ?xg0 ?xl0 ?xs0 ?xe0 ?xt0 ?xk0 ?xi0 ?xa0 ?xb0 ?xw0 ?xh0 ?xc0 ?xm0 ?xr0 ?xf0 ?xn0 ?xo0 ?xg1 ?xl1 ?xs1 ?xe1 ?xt1 ?xk1 ?xi1 ?xa1 ?xb1 ?xw1 ?xh1 ?xc1 ?xm1 ?xr1 ?xf1 ?xn1 ?xo1 ?zcn ?zct ?ps_BadBook_BadBook ?ps_Stray_BadBook ?ps_Stray_Stray ?rg ?rc ?rt ?rb ?rq0 ?rv0 ?rq1 ?rv1 ?z0 ?z1 ?z2 ?z3 ?z4 ?z5 ?z6 ?z7 ?z8 ?z9 ?z10 ?z11 ?y0 ?y1 ?y2 ?tbD0_1
    (case a0 => k_is); (case l0 => k_is); (case c0 => k_is); (case k0 => k_is); (case a1 => k_is); (case l1 => k_is)
    (case c1 => k_is); (case k1 => k_is); (case a2 => k_is); (case l2 => k_is); (case c2 => k_is); (case k2 => k_is)
    (case a3 => k_is); (case l3 => k_is); (case c3 => k_is); (case k3 => k_is); (case df3 => k_is); (case a4 => k_is)
    (case l4 => k_is); (case c4 => k_is); (case k4 => k_is); (case a5 => k_is); (case l5 => k_is); (case c5 => k_is)
    (case k5 => k_is); (case a6 => k_is); (case l6 => k_is); (case c6 => k_is); (case k6 => k_is); (case a7 => k_is)
    (case l7 => k_is); (case c7 => k_is); (case k7 => k_is); (case a8 => k_is); (case l8 => k_is); (case c8 => k_is)
    (case k8 => k_is); (case a9 => k_is); (case l9 => k_is); (case c9 => k_is); (case k9 => k_is); (case a10 => k_is)
    (case l10 => k_is); (case c10 => k_is); (case k10 => k_is); (case a11 => k_is); (case l11 => k_is); (case c11 => k_is)
    (case k11 => k_is); (case a12 => k_is); (case l12 => k_is); (case c12 => k_is); (case k12 => k_is); (case a13 => k_is)
    (case l13 => k_is); (case c13 => k_is); (case k13 => k_is); (case a14 => k_is); (case l14 => k_is); (case c14 => k_is)
    (case k14 => k_is); (case a15 => k_is); (case l15 => k_is); (case c15 => k_is); (case k15 => k_is); (case a16 => k_is)
    (case l16 => k_is); (case c16 => k_is); (case k16 => k_is); (case a17 => k_is); (case l17 => k_is); (case c17 => k_is)
    (case k17 => k_is); (case a18 => k_is); (case l18 => k_is); (case c18 => k_is); (case k18 => k_is); (case a19 => k_is)
    (case l19 => k_is); (case c19 => k_is); (case k19 => k_is); (case a20 => k_is); (case l20 => k_is); (case c20 => k_is)
    (case k20 => k_is); (case a21 => k_is); (case l21 => k_is); (case c21 => k_is); (case k21 => k_is); (case tbO1 => k_is)
    (case tbV1 => rfl); (case tbC1 => kernel_rfl); (case tbN1 => kernel_rfl); (case a22 => k_is); (case l22 => k_is); (case c22 => k_is)
    (case k22 => k_is); (case tbO0 => k_is); (case tbV0 => rfl); (case tbC0 => kernel_rfl); (case tbN0 => kernel_rfl); (case xg0 => k_is)
    (case xl0 => k_is); (case xs0 => k_is); (case xe0 => k_is); (case xt0 => k_is); (case xk0 => k_is); (case xi0 => k_is)
    (case xa0 => k_is); (case xb0 => k_is); (case xw0 => k_is); (case xh0 => k_is); (case xc0 => k_is); (case xm0 => k_is)
    (case xr0 => k_is); (case xf0 => k_is); (case xn0 => k_is); (case xo0 => k_is); (case xg1 => k_is); (case xl1 => k_is)
    (case xs1 => k_is); (case xe1 => k_is); (case xt1 => k_is); (case xk1 => k_is); (case xi1 => k_is); (case xa1 => k_is)
    (case xb1 => k_is); (case xw1 => k_is); (case xh1 => k_is); (case xc1 => k_is); (case xm1 => k_is); (case xr1 => k_is)
    (case xf1 => k_is); (case xn1 => k_is); (case xo1 => k_is); (case zcn => k_is); (case zct => k_is); (case ps_BadBook_BadBook => k_is)
    (case ps_Stray_BadBook => k_is); (case ps_Stray_Stray => k_is); (case rg => k_is); (case rc => k_is); (case rt => k_is); (case rb => k_is)
    (case rq0 => k_is); (case rv0 => k_is); (case rq1 => k_is); (case rv1 => k_is); (case z0 => k_is); (case z1 => k_is)
    (case z2 => k_is); (case z3 => k_is); (case z4 => k_is); (case z5 => k_is); (case z6 => k_is); (case z7 => k_is)
    (case z8 => k_is); (case z9 => k_is); (case z10 => k_is); (case z11 => k_is); (case y0 => k_is); (case y1 => k_is)
    (case y2 => k_is); (case tbD0_1 => kernel_rfl); (case lI => k_is); (case cI => k_is); (case kI => k_is); (case tI => k_is)
  case HP =>
    intro w h Y p hp
    refine PySem.W.km_tabs_of Y _ ?_
    simp only [List.mem_cons, List.not_mem_nil, or_false] at hp
    rcases hp with rfl | rfl <;> decide
