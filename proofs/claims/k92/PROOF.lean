import PyProof.Rows.All
import Wide.All
import OpenK.AllK
import Wide.FinOn
import HandS.ForMost
import HandS.Strs
import HandS.SetFor
import PyProof.Rows.SetFrom
import HandS.IsInst
import HandS.RaiseMore
import PyProof.ReprRoads
import KE.KDictPairs
import HandS.TupAny
import HandS.Iter
import HandS.Walk
import KE.GoesEnum
import HandS.ForExc
import HandS.ExcOwn
import HandS.WordsExc
import HandS.ExcIs
import HandS.SlotsOwn
import KE.KTypeName
import HandS.ExcInit
import HandS.Style
import HandS.Flow
import HandS.Codes
import HandS.Conv
import HandS.Defaults
import PySem.Challenge.RW_neverfour_k92_forks_and_windows_refused
import HandS.TupMul
import PyProof.ReprBulk
import PyProof.CallFns
import HandS.EndTab
import HandS.NestedK
set_option Elab.async false
set_option linter.all false
set_option maxRecDepth 100000
namespace Nv
open PySem PySem.Spec PyProof.Rows L2
section
variable {P : Program} {w : World} {A : Around} {E : Value → Shared → Prop} {s : Shared}
/-- an empty set as set(..) begins it -/
abbrev noSet (w : World) : Obj := { cls := .type "set", dict := none, data := .set #[] 0 (.fresh 0 0 (!w.params.followText "set-order")) }

/-- set.__init__ of a list of ints -/
theorem fillSet {S l : Addr} {xs : Array Value} {ns : List Int} {Q : Value → Shared → Prop} (quiet : A.handled = none)
    (hS : s.heap.get? S = some (noSet w)) (hl : s.heap.IsList l xs) (hi : IntsAre xs.toList ns) (room : ns.length + 1 < scanBound)
    (k : ∀ (g : Heap) (t c : Nat), SetR w g S (fun j => decide (j ∈ ns)) c → c ≤ ns.length → (∀ b o, b ≠ S → s.heap.get? b = some o → g.get? b = some o) → Q .none { s with heap := g, toks := t }) :
    codeAny (model P w) A (.call (.builtin "set.__init__") ⟨[.ref S, .ref l], []⟩) (wants Q E) s := by
  have sz : xs.size = ns.length := by have q := IntsAre.length hi; rwa [Array.length_toList] at q
  refine codeAny_call_builtin F.called_set.init.plain F.entry_set_init (check_set_init_1 ⟨_, hS, rfl⟩ ?_)
  obtain ⟨⟨lc, ld, ldata, lsl⟩, hol, hcl, nl, hdl⟩ := hl
  simp only at hcl hdl
  subst hcl hdl
  have sub1 := F.sub_list_set
  have sub2 := F.sub_list_frozenset
  have nodict : (Value.type "list" == Value.type "dict") = false := by decide
  have lst : s.heap.IsList l xs := ⟨_, hol, rfl, nl, rfl⟩
  have lS : l ≠ S := fun e => by
    subst e
    exact absurd (congrArg Obj.cls (Option.some.inj (hol.symm.trans hS))) (show ¬ Value.type "list" = Value.type "set" by decide)
  unfold Builtin.«set.__init__» noKeywords Builtin.Frozenset.updateFrom
  generalize hPI : pyIter = PI
  wp_walk
  subst hPI
  refine wpAny_pyIter_list lst ?_
  refine wpAny_bind (wpAny_runValue ?_)
  have lt1 : l < s.heap.objs.size := Heap.lt_size hol
  have lt2 : S < s.heap.objs.size := Heap.lt_size hS
  have q3 : A.in1.in1.handled = none := by simp [quiet]
  have apart : S ∉ [s.heap.objs.size, l] := by
    intro z
    rcases List.mem_cons.mp z with e | z
    · exact absurd e (Nat.ne_of_lt lt2)
    · exact lS (List.mem_singleton.mp z).symm
  have each : ∀ (i : Nat) (v : Value), xs[i]? = some v → ∃ n t, ns[i]? = some n ∧ v = .int n t := fun i v hv => by
    have b : i < ns.length := by rw [← sz]; exact (Array.getElem?_eq_some_iff.mp hv).1
    obtain ⟨t, e⟩ := IntsAre.int_at hi i v (by rw [Array.getElem?_toList]; exact hv)
    refine ⟨ns[i], t, List.getElem?_eq_getElem b, ?_⟩
    rw [e, List.getD_eq_getElem?_getD, List.getElem?_eq_getElem b]
    rfl
  refine set_update_ints ((Walks.list q3 s.heap.objs.size l (Nat.ne_of_lt lt1) xs).toS) S apart ns sz room each (xs.size - 0) 0 _ (by omega) (Nat.zero_le _) ⟨⟨_, Heap.get?_push_size _ rfl, rfl, rfl⟩, lst.push _⟩ ?z ?r
  case z => exact ⟨0, Nat.le_refl 0, setR_new_at (Heap.get?_push_of_some _ hS)⟩
  case r =>
    intro s2 c mv hc R
    obtain ⟨g, g2, d2, t2, o2⟩ := s2
    have e1 : g2 = s.gens := mv.gens
    have e2 : d2 = s.drawn := mv.drawn
    have e3 : o2 = s.os := mv.os
    subst e1 e2 e3
    show wpAny _ _ _ _ _ _
    refine wpAny_pure ?_
    show wpAny _ _ (ret Value.none) _ _ _
    rw [sz] at hc
    refine wpAny_pure (k g t2 c R hc fun b o nb e => ?_)
    have hb : b < s.heap.objs.size := Heap.lt_size e
    refine mv.heap b o (fun z => ?_) (Heap.get?_push_of_some _ e)
    rcases List.mem_cons.mp z with z | z
    · exact nb z
    · exact absurd (List.mem_singleton.mp z) (Nat.ne_of_lt hb)
/-- set(l), l a list of ints -/
theorem setOf {l : Addr} {xs : Array Value} {ns : List Int} {Q : Value → Shared → Prop} (quiet : A.handled = none) (hl : s.heap.IsList l xs) (hi : IntsAre xs.toList ns) (room : ns.length + 1 < scanBound)
    (k : ∀ (g : Heap) (t c : Nat), SetR w g s.heap.objs.size (fun j => decide (j ∈ ns)) c → c ≤ ns.length → (∀ b o, s.heap.get? b = some o → g.get? b = some o) → Q (.ref s.heap.objs.size) { s with heap := g, toks := t }) :
    wpAny (model P w) A (call (.type "set") [.ref l]) Q E s := by
  obtain ⟨c0, tl, mro⟩ := F.called_set.mro
  have made := F.called_set.made
  have sub := F.called_set.sub
  refine wpAny_call (codeAny_of_tree ?_)
  show wpAny _ _ (callAny (.type "set") _) _ _ _
  refine wpAny_pure ⟨Code.quiet_builtin _ (by decide +kernel), codeAny_builtin F.entry_type_call ?_⟩
  rw [Around.under_plain (weight_type_call_type "set" [.ref l] []) rfl]
  have f1 := F.called_set.notType
  have f2 := F.called_set.canCreate
  have f3 := F.typeCall_set_1 (.ref l)
  repeat (any_goals (first | assumption | wp_step))
  refine codeAny_mono (code_set_led1 (w := w) (.ref l) (E := E) (Q₁ := fun v s1 => v = .ref s.heap.objs.size ∧ s1 = { s with heap := s.heap.push (noSet w) }) ⟨rfl, rfl⟩) fun r s1 hr => ?_
  rcases r with e | fl
  · exact hr
  · cases fl with
    | ret v =>
      obtain ⟨rfl, rfl⟩ := hr
      have at0 : (s.heap.push (noSet w)).get? s.heap.objs.size = some (noSet w) := Heap.get?_push_size _ rfl
      have ty : Shared.TypeIs { s with heap := s.heap.push (noSet w) } (.ref s.heap.objs.size) "set" := ⟨_, at0, rfl⟩
      have f4 := F.called_set.init.lookup
      have f5 := F.called_set.init.bind (.ref s.heap.objs.size)
      repeat (any_goals (first | assumption | wp_step))
      refine codeAny_mono (fillSet (E := E) (Q := fun v s2 => v = .none ∧ ∃ g t c, s2 = { s with heap := g, toks := t } ∧ SetR w g s.heap.objs.size (fun j => decide (j ∈ ns)) c ∧ c ≤ ns.length ∧ ∀ b o, s.heap.get? b = some o → g.get? b = some o)
        (by simp [quiet]) at0 (hl.push _) hi room fun g t c R hc kp => ⟨rfl, g, t, c, rfl, R, hc, fun b o e => kp b o (Nat.ne_of_lt (Heap.lt_size e)) (Heap.get?_push_of_some _ e)⟩) fun r2 s2 hr2 => ?_
      rcases r2 with e | fl2
      · exact hr2
      · cases fl2 with
        | ret v2 =>
          obtain ⟨rfl, g, t, c, rfl, R, hc, kp⟩ := hr2
          repeat (any_goals (first | assumption | wp_step))
          exact k g t c R hc kp
        | _ => exact hr2.elim
    | _ => exact hr.elim
end
/-- set(l): the new set -/
def rSetI (K : PySem.W.Frag) (w : World) : List V → Hp → VK → Prop := fun xs H Q => ∃ (l : Addr) (ns : List Int), xs = [.ref l] ∧ SqL K H l (ns.map V.int) ∧ ns.length ≤ 4000 ∧ ∀ (p : Addr) (c : Nat), H p = none → c ≤ ns.length → Q (.ref p) (upd H p (SetO w p (fun j => decide (j ∈ ns)) c))
theorem cr_setI {X : Cx} (hc : X.calm = true) : CallR X (.type "set") (rSetI X.K X.w) := by
  intro pins s σ H xs us Q I r h
  obtain ⟨l, ns, rfl, hq, hz, q⟩ := h
  obtain ⟨u, rfl, rx⟩ := vals1 r
  cases rx
  obtain ⟨its, rv, ⟨o, n, ho, hcl, hd, hdat⟩, _⟩ := I.list hq
  refine setOf (I.ok.hd hc) (show s.heap.IsList l its.toArray from ⟨o, ho, hcl, n, hdat⟩) (ints_of_vals rv) (by unfold scanBound; omega) fun g t c R hcn kp => ?_
  have new : H s.heap.objs.size = none := I.hok.fresh (Nat.le_refl _)
  exact ⟨.ref s.heap.objs.size, upd H s.heap.objs.size (SetO X.w s.heap.objs.size (fun j => decide (j ∈ ns)) c), I.laid (t' := t) kp (Nat.le_refl _) (setO_new R), rfl, q _ c new hcn⟩
end Nv
set_option Elab.async false
set_option linter.all false
set_option maxRecDepth 100000
namespace Nv
open PySem PySem.Spec PyProof.Rows L2
/-! ### tuples whose object is known to have no dict of its own -/
def TupZ (H : Hp) (a : Addr) (xs : List V) : Prop := ∃ o : Obj, H a = some (.frz o (.tup xs)) ∧ o.dict = none
theorem TupZ.sq {K : PySem.W.Frag} {H : Hp} {a : Addr} {xs : List V} (h : TupZ H a xs) : SqT K H a xs := by
  obtain ⟨o, e, _⟩ := h
  exact .inl (.inr ⟨o, e⟩)
def rTupZ (K : PySem.W.Frag) : List V → Hp → VK → Prop := fun xs H Q => ∃ (p : Addr) (ys : List V), xs = [.ref p] ∧ SqL K H p ys ∧ ∀ (l : Addr) (H' : Hp), H l = none → (∃ o : Obj, o.dict = none ∧ H' = upd H l (.frz o (.tup ys))) → Q (.ref l) H'
theorem call_tupZ {X : Cx} : CallR X (.type "tuple") (rTupZ X.K) := by
  intro pins s σ H xs us Q I r h
  obtain ⟨p, ys, rfl, hq, q⟩ := h
  obtain ⟨u, rfl, rx⟩ := vals1 r
  cases rx
  obtain ⟨its, rv, pl, hz⟩ := I.list hq
  have hlen := rv.length
  refine call_tuple_list pl.isList (fun g kp => ?_) (by simp only [List.size_toArray]; omega)
  have I1 : Inv X pins σ H { s with heap := g } := I.kept (t' := s.toks) kp
  have I2 : Inv X pins σ (upd H g.objs.size (.frz { cls := .type "tuple", data := .seq its.toArray } (.tup ys))) { s with heap := g.push { cls := .type "tuple", data := .seq its.toArray } } :=
    I1.laid (t' := s.toks) (fun b o e => Heap.get?_push_of_some _ e) (Nat.le_refl _) (show ObjOk X.prog X.w _ _ _ (.frz _ (.tup ys)) from ⟨Heap.get?_push_size _ rfl, hz, its, rv, IsTup.new _ _⟩)
  exact ⟨.ref g.objs.size, _, I2, rfl, q _ _ (I1.hok.fresh (Nat.le_refl _)) ⟨_, rfl, rfl⟩⟩

theorem pickL {α : Type} {n : Nat} {R : Nat → α → Prop} (h : ∀ j, j < n → ∃ x, R j x) : ∃ l : List α, l.length = n ∧ ∀ j x, l[j]? = some x → R j x := by
  induction n with
  | zero => exact ⟨[], rfl, fun j x e => by simp at e⟩
  | succ n ih =>
    obtain ⟨l, hl, hR⟩ := ih fun j hj => h j (Nat.lt_succ_of_lt hj)
    obtain ⟨x, hx⟩ := h n (Nat.lt_succ_self n)
    refine ⟨l ++ [x], by simp [hl], fun j y e => ?_⟩
    by_cases hj : j < n
    · rw [List.getElem?_append_left (by omega)] at e
      exact hR j y e
    · rw [List.getElem?_append_right (by omega)] at e
      have hj2 : j = n := by
        have := (List.getElem?_eq_some_iff.mp e).1
        simp at this
        omega
      subst hj2
      rw [hl, Nat.sub_self] at e
      cases e
      exact hx
/-! ### dict(t), t such a tuple of pairs -/
def rDictT (K : PySem.W.Frag) : List V → Hp → VK → Prop := fun xs H Q => ∃ (a : Addr) (ps : List Addr) (kvs : List (Key × V)), xs = [.ref a] ∧ TupZ H a (ps.map V.ref) ∧ Paired (fun p kv => SqT K H p [kV kv.1, kv.2]) ps kvs ∧
  ∀ p, H p = none → Q (.ref p) (upd H p (.dK (mergeK [] kvs)))
theorem call_dictT {X : Cx} (hc : X.calm = true) : CallR X (.type "dict") (rDictT X.K) := by
  intro pins s σ H xs us Q I r h
  obtain ⟨a, ps, kvs, rfl, ⟨o, ha, hd⟩, hp, q⟩ := h
  obtain ⟨u, rfl, rx⟩ := vals1 r
  cases rx
  have ok := I.hok a _ ha
  obtain ⟨hget, hz, its, rv, o2, ho2, hcl, n, hdat⟩ := ok
  have eo : o = o2 := Option.some.inj (hget.symm.trans ho2)
  subst eo
  have ei := refs_at rv
  subst ei
  rw [List.length_map] at hz
  obtain ⟨prs, rel, hl, hpr⟩ := pairs_of I hp
  -- the pairs as values
  obtain ⟨ws, wl, hw⟩ := pickL (n := prs.length) (R := fun j (x : Value × Value) => ∃ b kv, ps[j]? = some b ∧ prs[j]? = some kv ∧ kv.2 = x.2 ∧ IsTup s.heap b #[x.1, x.2] ∧ keyIs kv.1 x.1 = true) fun j hj => by
    obtain ⟨b, u, e1, e2, e3⟩ := hpr j prs[j] (List.getElem?_eq_getElem hj)
    exact ⟨(u, prs[j].2), b, prs[j], e1, List.getElem?_eq_getElem hj, rfl, e2, e3⟩
  have P := PairArg.tuple (prog := X.prog) (w := X.w) a (ps.map Value.ref).toArray (fun j => ps.getD j 0) ws
  refine PySem.call_dict_pairs (knd := mixKind X.prog X.w) (kvs := prs) P (I.ok.hd hc) ⟨⟨o, n, hget, hcl, hd, hdat⟩, by simp [wl, hl], fun j k v e => ?_⟩ ⟨by rw [wl], fun i key v e => ?_⟩ (by rw [wl, hl]; exact hz) fun g tk hd' kp => ?_
  · obtain ⟨b, kv, e1, e2, e3, e4, e5⟩ := hw j (k, v) e
    refine ⟨by simp [e1], ?_⟩
    show PairAt s.heap (ps.getD j 0) k v
    rw [List.getD_eq_getElem?_getD, e1]
    obtain ⟨ob, h1, h2, m, h3⟩ := e4
    exact .inl ⟨ob, h1, h2, m, h3⟩
  · obtain ⟨b, kv, e1, e2, e3, e4, e5⟩ := hw i (key, v) e
    obtain ⟨k0, v0⟩ := kv
    cases e3
    exact ⟨k0, e2, e5⟩
  · have kall : ∀ b o, s.heap.get? b = some o → g.get? b = some o := fun b o e => kp b o (by simp) e
    have hm : (s.heap.objs.size == sysModules) = false := beq_eq_false_iff_ne.mpr (Nat.ne_of_gt I.big)
    have hlen : (mergeK [] kvs).length ≤ sizeLine := by
      refine Nat.le_trans (length_mergeK kvs []) ?_
      rw [List.length_nil, Nat.zero_add, rel.length, hl]
      exact hz
    exact ⟨.ref s.heap.objs.size, upd H s.heap.objs.size (.dK (mergeK [] kvs)), I.laid (t' := tk) kall (Nat.le_refl _) (show ObjOk X.prog X.w _ _ _ (.dK (mergeK [] kvs)) from ⟨hlen, hm, merged [] prs, KV.merge rel .nil, hd'⟩), rfl, q _ (I.hok.fresh (Nat.le_refl _))⟩

/-! ### repr -/
theorem isDisp_of {K : PySem.W.Frag} {H : Hp} {a : Addr} {d : PyData} (h : Dp K H (.ref a) d) : (∃ ds, d = .list ds) ∨ ∃ ds, d = .tuple ds := by
  cases h with
  | lst _ _ => exact .inl ⟨_, rfl⟩
  | tup _ _ => exact .inr ⟨_, rfl⟩
/-- repr(x) of data at an address; nothing is being shown around -/
def rRepr (K : PySem.W.Frag) : List V → Hp → VK → Prop := fun xs H Q => ∃ (a : Addr) (d : PyData), xs = [.ref a] ∧ Dp K H (.ref a) d ∧ d.showable = true ∧ d.hasDict = false ∧ d.depth ≤ 60 ∧ d.shown.length ≤ sizeLine ∧ Q (.str d.shown) H
theorem call_reprD {X : Cx} (hu : X.A.units + 64 < cLine) (hg : X.A.guards = some []) : CallR X (.builtin "repr") (rRepr X.K) := by
  intro pins s σ H xs us Q I r h
  obtain ⟨a, d, rfl, hd, h1, h2, h3, h4, q⟩ := h
  obtain ⟨u, rfl, rx⟩ := vals1 r
  obtain ⟨as, rd⟩ := Dp.reads I d _ _ hd rx
  cases rx
  refine repr_of_reads' rd h1 (fun z => by rw [h2] at z; cases z) hg (by omega) (fun b o e => e) (fun g u tk kp => ?_) h4
  exact ⟨.str d.shown, H, I.kept (t' := tk) kp, ⟨u, rfl⟩, q⟩
end Nv
set_option Elab.async false
set_option linter.all false
set_option maxRecDepth 100000
namespace Nv
open PySem PySem.Spec PyProof.Rows L2
/-! ### defs that are called where nothing is being shown (repr looks at that) -/
structure FnG (P : Program) (w : World) (K : PySem.W.Frag) (mg : Str → Option Value) (base : Heap) (CX : CXT) (k : Nat) (f : Addr) (fd : FuncData) (ps : List Str) (sp : Sp) : Prop where
  len : ∀ vs H Q E, sp vs H Q E → vs.length = ps.length
  run : ∀ (A : Around) (outer : List Env) (s : Shared) (H : Hp) (args : Args) (us : List Value) (vs : List V) (Q : VK) (E : XK), A.guards = some [] → Room k A → Env0 P w K mg base A outer s H →
    BindsTo s fd args (ps.zip us) → Vals vs us → sp vs H Q E → codeAny (model P w) A (.call (.ref f) args) (CR CX outer P w H s Q E) s
section
variable {P : Program} {w : World} {K : PySem.W.Frag} {mg : Str → Option Value} {base : Heap} {CX : CXT}
theorem FnG.of {k : Nat} {f : Addr} {fd : FuncData} {ps : List Str} {sp : Sp} (F : FnOk P w K mg base CX k f fd ps sp) : FnG P w K mg base CX k f fd ps sp :=
  ⟨F.len, fun A outer s H args us vs Q E _ r e b v h => F.run A outer s H args us vs Q E r e b v h⟩
/-- a def by its body; in the body nothing is being shown -/
theorem fnG_of {k : Nat} {f : Addr} {name qual : Str} {params : Arguments} {body : List Stmt} {scope : Scope} {dV kV doc pm cdv ct oc : Value} {an od : Option Addr} {osl : Array (Option Value)} {N ps : List Str} {sp : Sp}
    (lk : K.lookup f = some ⟨oc, od, .func (PySem.W.fnOf name qual params body scope dV kV doc pm an cdv ct), osl⟩) (cd : PySem.W.codeIn K cdv qual = true) (S : FnScope N ps scope) (len : ∀ vs H Q E, sp vs H Q E → vs.length = ps.length)
    (walk : ∀ (A : Around) (outer : List Env) (s : Shared) (H : Hp) (vs : List V) (Q : VK) (E : XK), A.guards = some [] → Room k (A.deeper (envOfC qual scope s.heap.objs.size f cdv)) → sp vs H Q E →
      ∃ t, PSs (cxOf CX P w K mg base N qual scope f cdv A outer s H E) body t ∧ t { nx := fun _ H' => Q .non H', rt := Q } (start N vs) H) :
    FnG P w K mg base CX (k + 1) f (PySem.W.fnOf name qual params body scope dV kV doc pm an cdv ct) ps sp := by
  refine ⟨len, fun A outer s H args us vs Q E hg room e0 bind rel want => ?_⟩
  have here : ∀ b o, base.get? b = some o → s.heap.get? b = some o := fun b o e => (e0.bs b o e).1
  have KX : K.In s.heap := e0.mod.kin.keeps here
  have lim : s.heap.NoLimit := e0.mod.nolimit.keeps here
  refine codeAny_call_function room.depth (KX _ _ lk) rfl S.co S.gen rfl (PySem.W.codeRec_of KX cd) (bind _ _ _ _ ?_)
  refine wpAny_newFunctionEnv_cells S.kind (fun ⟨n, v⟩ hy => ?_) fun env he s1 x => ?_
  · rcases S.par n (List.of_mem_zip hy).1 with z | z
    · exact .inl z
    · exact .inr ⟨z, PySem.W.cellsFrom_some _ _ _ (.inl z)⟩
  · subst he
    refine ⟨lim.keeps x.toInCall.keep, codeAny_func ?_⟩
    obtain ⟨t, ht, hq⟩ := walk A outer s H vs Q E hg (room.deeper _) want
    refine wpAny_mono (ht.run [] s1 (start N vs) H _ (inv_start S room.hd e0 (len _ _ _ _ want) rel x) hq) (fun fl s' hs => ?_) fun e s' hs => hs
    cases fl with
    | ret u =>
      obtain ⟨v, σ', H', J, rv, q⟩ := hs
      exact ⟨v, H', J.os, J.bare, J.base, J.hok, rv, q⟩
    | next =>
      obtain ⟨σ', H', J, q⟩ := hs
      exact ⟨V.non, H', J.os, J.bare, J.base, J.hok, rfl, q⟩
    | brk => exact (hs.choose_spec.choose_spec.2 : False).elim
    | cont => exact (hs.choose_spec.choose_spec.2 : False).elim
theorem FunG.ok {x qual : Str} {st : Stmt} {f : Addr} {fd : FuncData} {N ps : List Str} {k : Nat} {sp : Sp} (F : Fun K x qual st f fd) (S : FnScope N ps (defScope st)) (len : ∀ vs H Q E, sp vs H Q E → vs.length = ps.length)
    (walk : ∀ (cdv : Value) (A : Around) (outer : List Env) (s : Shared) (H : Hp) (vs : List V) (Q : VK) (E : XK), A.guards = some [] → Room k (A.deeper (envOfC qual (defScope st) s.heap.objs.size f cdv)) → sp vs H Q E →
      ∃ t, PSs (cxOf CX0 P w K mg base N qual (defScope st) f cdv A outer s H E).nox (defBody st) t ∧ t { nx := fun _ H' => Q .non H', rt := Q } (start N vs) H) : FnG P w K mg base CX0 (k + 1) f fd ps sp := by
  obtain ⟨oc, od, kV, doc, pm, an, cdv, ct, osl, rfl, lk, cd⟩ := F.ex
  refine fnG_of lk cd S len fun A outer s H vs Q E hg hr want => ?_
  obtain ⟨t, h, q⟩ := walk cdv A outer s H vs Q E hg hr want
  exact ⟨t, h.nox, q⟩
end
section
variable {X : Cx} {CX : CXT} {k : Nat} {f : Addr} {fd : FuncData} {ps : List Str} {sp : Sp} {dvs : List V} {ds : List Value} {E : XK} {x : Str} {p pos : Pos} {e : Expr} {es : List Expr} {t : TA}
/-- a call of such a def where nothing is being shown -/
theorem pe_callG (F : FnG X.prog X.w X.K X.mg X.base CX k f fd ps sp) (hG : X.A.guards = some []) (hr : Room k X.A) (hg : Gl X x) (hm : X.mg x = some (.ref f)) (hk : PySem.W.keepIn X.K (.ref f) = true) (hb : Binds X.K fd ps ds) (hd : Vals dvs ds) (hx : Passes CX X E)
    (ha : PA X (e :: es) t) (hdb : (x == ("__debug__" : Str)) = false := by decide) (he : starEach (e :: es) X.env = (false, eval e X.env) :: starEach es X.env := by rfl) (hpl : (backTo pos (starEach es X.env)).any (·.1) = false := by rfl) :
    PE X (.Call (.Name x p) (e :: es) [] pos) (tCall sp dvs E t) := by
  refine ⟨fun pins s σ H Q I h => wpAny_Call_Name_kw (ld_glob I hg hm (PySem.W.callWith_K (h₀ := X.base) I.ok.mod.kin hk (thn (ha.run pos pins s σ H _ I h) fun us s1 ⟨vs, H1, I1, r, q⟩ => ⟨I1.kIn, ?_⟩) he hpl) hdb)⟩
  have r2 : Vals (vs ++ dvs) (us ++ ds) := r.append hd
  have hl : (us ++ ds).length = ps.length := by rw [← r2.length]; exact F.len _ _ _ _ q
  refine wpAny_call (codeAny_mono (F.run X.A X.stack s1 H1 ⟨us, []⟩ (us ++ ds) (vs ++ dvs) Q E hG hr I1.env0 (hb s1 us I1.kIn hl) r2 q) fun rr s' hq => ?_)
  rcases rr with ee | fl
  · exact hx pins σ H1 s1 ee s' I1 hq
  · cases fl with
    | ret u => exact I1.after hq
    | next => exact hq.elim
    | brk => exact hq.elim
    | cont => exact hq.elim
end
/-! ### the end: the law itself, such a def -/
theorem script_gone {P : Program} {w : World} {K : PySem.W.Frag} {h : Heap} {a : Addr} {xs : List Value} {ns : List Int} (KX : K.In h) (ha : h.get? a = some { cls := .type "list", data := .seq xs.toArray }) (hi : IntsAre xs ns) (hl : ns.length ≤ sizeLine) :
    ∃ H : Hp, Only H ∧ SqL K H a (ns.map V.int) ∧ HOk P w H h ∧ (∀ b u, H b = some u → b = a ∧ K.lookup a = none) := by
  have rv := vals_ints hi
  cases hk : K.lookup a with
  | some o =>
    obtain rfl := Option.some.inj ((KX a o hk).symm.trans ha)
    refine ⟨fun _ => none, fun _ => .inl rfl, .inr ⟨_, xs.toArray, _, hk, rfl, rfl, rfl, by rw [List.size_toArray, hi.length]; exact hl, by simpa using rv⟩, fun b u z => (by have z' : (none : Option HO) = some u := z; cases z'), fun b u z => (by have z' : (none : Option HO) = some u := z; cases z')⟩
  | none =>
    have on : ∀ b u, (if b = a then some (HO.frz { cls := .type "list", data := .seq xs.toArray } (.lst (ns.map V.int))) else none) = some u → b = a ∧ u = HO.frz { cls := .type "list", data := .seq xs.toArray } (.lst (ns.map V.int)) := fun b u z => by
      split at z
      · exact ⟨by assumption, (Option.some.inj z).symm⟩
      · cases z
    refine ⟨fun b => if b = a then some (.frz { cls := .type "list", data := .seq xs.toArray } (.lst (ns.map V.int))) else none, fun b => ?_, .inl (.inr ⟨_, if_pos rfl⟩), fun b u z => ?_, fun b u z => ⟨(on b u z).1, rfl⟩⟩
    · by_cases hb : b = a
      · exact .inr ⟨_, _, if_pos hb⟩
      · exact .inl (if_neg hb)
    · obtain ⟨rfl, rfl⟩ := on b u z
      exact ⟨ha, by rw [List.length_map]; exact hl, xs, _, rv, ha⟩
theorem endG {l : PySem.W.OpenLaw} {n k : Nat} {q : Program} {loose : List Str} {XP : (Str → Option Value) → Heap → Prop} {YP : World → Heap → Prop} {d : DefRec} {K : Params → PySem.W.Frag} {sp : PySem.W.Frag → Sp} {x : Str}
    (hn : l.most = some n) (hn2 : n ≤ sizeLine) (hdf : d.params.defaults = []) (hr : Room k callerA) (hY : ∀ (w : World) (h : Heap), YP w h → (K w.params).In h)
    (F : ∀ (w : World) (mg : Str → Option Value) (fa : Addr) (h : Heap), (K w.params).In h → h.Ns mainGlobals mg → mg d.name = some (.ref fa) →
      ∃ fd : FuncData, (∀ (s : Shared) (u : Value), BindsTo s fd ⟨[u], []⟩ [(x, u)]) ∧ ∀ base : Heap, (K w.params).In base → base.Ns mainGlobals mg → FnG l.prog w (K w.params) mg base CX0 k fa fd [x] (sp (K w.params)))
    (hsp : ∀ (K : PySem.W.Frag) (H : Hp) (a : Addr) (ns : List Int), ns.length ≤ n → SqL K H a (ns.map V.int) → sp K [.ref a] H (fun v _ => v = .bl true) fun _ _ _ => False) :
    PySem.W.WalkO q loose XP YP l.row.toRowW d [] (fun f vs => PySem.call f vs) := by
  refine Att.attach_call hn hdf fun w s₀ s1 mg mb fa o pm cd doc a vs ns G Y ho hd hcd hmg hobj hints hlen hg => ?_
  have KX := hY w _ Y
  obtain ⟨fd, hb, hF⟩ := F w mg fa _ KX G.T.g hmg
  have small : ns.length ≤ sizeLine := Nat.le_trans hlen hn2
  obtain ⟨H, only, seen, hok, dom⟩ := script_gone (P := l.prog) (w := w) KX hobj hints small
  -- the heap without the script
  have free : ∀ {b : Addr} {o : Obj}, s1.heap.get? b = some o → (∀ xs k, o.data ≠ .seq xs k) → H b = none := fun {b o} e ne => by
    cases q : H b with
    | none => rfl
    | some u =>
      obtain ⟨rfl, _⟩ := dom b u q
      rw [hobj] at e
      cases e
      exact (ne _ _ rfl).elim
  have ns : ∀ {b : Addr} {m : Str → Option Value}, s1.heap.Ns b m → (hidT s1.heap H).Ns b m := fun {b m} ⟨o, es, ep, e, dd, r⟩ => ⟨o, es, ep, hidT_get e (free e (by rw [dd]; intro _ _ z; cases z)), dd, r⟩
  have inK : (K w.params).In (hidT s1.heap H) := fun b o e => hidT_get (KX b o e) (by
    cases q : H b with
    | none => rfl
    | some u =>
      obtain ⟨rfl, z⟩ := dom b u q
      rw [z] at e
      cases e)
  have M : Mod (K w.params) mg (hidT s1.heap H) := ⟨inK, ns G.T.g, ⟨mb, ns G.T.b, G.T.builtins⟩, let ⟨mc, h1, h2⟩ := G.T.nolimit; ⟨mc, ns h1, h2⟩⟩
  have e0 : Env0 l.prog w (K w.params) mg (hidT s1.heap H) callerA [] s1 H := ⟨rfl, M, fun b o e => of_hidT e, Nat.le_of_eq (hidT_size _ _), trivial, fun b z => absurd (show b ∈ ([] : List Addr) from z) (by simp), hok, AllBare.of_eq hg⟩
  refine codeAny_mono ((hF _ inK (ns G.T.g)).run callerA [] s1 H ⟨[.ref a], []⟩ [.ref a] [.ref a] _ _ rfl hr e0 (hb s1 (.ref a)) (.cons rfl .nil) (hsp _ H a _ hlen seen)) fun r s' h => ?_
  rcases r with e | fl
  · exact (h : False).elim
  · cases fl with
    | next => exact (h : False).elim
    | brk => exact (h : False).elim
    | cont => exact (h : False).elim
    | ret u =>
      obtain ⟨v, H', os, bare, un, hok', rv, qv⟩ := h
      obtain rfl : v = .bl true := qv
      obtain rfl : u = Value.bool true := rv
      refine ⟨rfl, OldK.of_keep fun b o e => ?_, os, bare⟩
      cases z : H b with
      | none => exact un.keep b o e z (fun z => absurd (show b ∈ ([] : List Addr) from z) (by simp)) (by simp)
      | some u =>
        obtain ⟨ob, ys, z2⟩ : ∃ ob ys, H b = some (.frz ob (.lst ys)) := by
          rcases only b with z3 | z3
          · rw [z3] at z; cases z
          · exact z3
        obtain ⟨g1, _⟩ := hok b _ z2
        obtain ⟨g2, _⟩ := hok' b _ (un.frzs b ob _ z2)
        rw [e] at g1
        cases g1
        exact g2
end Nv
set_option Elab.async false
set_option linter.all false
set_option maxRecDepth 100000
namespace Nv
open PySem PySem.Spec PyProof.Rows L2
/-! ### the layer's rules with the written part named (within a comprehension's block) -/
section
variable {X : Cx} (K : PySem.W.Frag)
theorem ix_listK (h : X.K = K := by rfl) : IxR X (rIxL K) := by subst h; exact ix_list
theorem ix_tupK (h : X.K = K := by rfl) : IxR X (rIxT K) := by subst h; exact ix_tup
theorem op_in_seqK (h : X.K = K := by rfl) : OpR X (compareOp .In) (rIn K false) := by subst h; exact op_in_seq
theorem op_notIn_seqK (h : X.K = K := by rfl) : OpR X (compareOp .NotIn) (rIn K true) := by subst h; exact op_notIn_seq
def rLen (K : PySem.W.Frag) : List V → Hp → VK → Prop := fun xs H Q => ∃ p ys, xs = [.ref p] ∧ (SqL K H p ys ∨ SqT K H p ys) ∧ Q (.int ys.length) H
theorem call_len_seqK (h : X.K = K := by rfl) : CallR X (.builtin "len") (rLen K) := by subst h; exact call_len_seq
theorem mt_indexK (h : X.K = K := by rfl) : MtR X "list.index" (rIndex K) := by subst h; exact mt_index
theorem call_tupZK (h : X.K = K := by rfl) : CallR X (.type "tuple") (rTupZ K) := by subst h; exact call_tupZ
def rListOf (K : PySem.W.Frag) : List V → Hp → VK → Prop := fun xs H Q => ∃ p ys, xs = [.ref p] ∧ (SqL K H p ys ∨ SqT K H p ys) ∧ ∀ l, H l = none → Q (.ref l) (upd H l (.lst ys))
theorem call_list_ofK (h : X.K = K := by rfl) : CallR X (.type "list") (rListOf K) := by subst h; exact call_list_of
theorem call_dictTK (h : X.K = K := by rfl) (hc : X.calm = true := by rfl) : CallR X (.type "dict") (rDictT K) := by subst h; exact call_dictT hc
theorem cr_setIK (w : World) (h : X.K = K := by rfl) (h2 : X.w = w := by rfl) (hc : X.calm = true := by rfl) : CallR X (.type "set") (rSetI K w) := by subst h h2; exact cr_setI hc
theorem cr_sortedSetK (w : World) (h2 : X.w = w := by rfl) (hc : X.calm = true := by rfl) : CallR X (.builtin "sorted") (rSortedSet w) := by subst h2; exact cr_sortedSet hc
theorem cr_sortedK (h : X.K = K := by rfl) : CallR X (.builtin "sorted") (rSorted K) := by subst h; exact cr_sorted
theorem cr_anyK (h : X.K = K := by rfl) (hc : X.calm = true := by rfl) : CallR X (.builtin "any") (rAny K) := by subst h; exact cr_any hc
theorem cr_sumK (h : X.K = K := by rfl) (hc : X.calm = true := by rfl) : CallR X (.builtin "sum") (rSum K) := by subst h; exact cr_sum hc
theorem call_isiK' (h : X.K = K := by rfl) : CallR X (.builtin "isinstance") (rIsi K) := by subst h; exact call_isi
theorem op_eqDK (hu : X.A.units + 64 < cLine) (h : X.K = K := by rfl) : OpR X (compareOp .Eq) (rEqD K) := by subst h; exact op_eqD hu
theorem op_neDK (hu : X.A.units + 64 < cLine) (h : X.K = K := by rfl) : OpR X (compareOp .NotEq) (rNeD K) := by subst h; exact op_neD hu
theorem sl_listK (h : X.K = K := by rfl) : SlR X (rSlL K) := by subst h; exact sl_list
theorem call_reprDK (hu : X.A.units + 64 < cLine) (hg : X.A.guards = some []) (h : X.K = K := by rfl) : CallR X (.builtin "repr") (rRepr K) := by subst h; exact call_reprD hu hg
theorem pi_listK {tg l : Expr} {tl : TE} (hl : PE X l tl) (h : X.K = K := by rfl) : PI X tg l (iList K tl) := by subst h; exact pi_list hl
theorem pi_tupK {tg l : Expr} {tl : TE} (hl : PE X l tl) (h : X.K = K := by rfl) : PI X tg l (iTup K tl) := by subst h; exact pi_tup hl
theorem pg_tupK {es : List Expr} {k : Nat} {t : TGs} {n : Nat} {pos : Pos} (hc : X.calm = true) (hh : PGs X es t) (h : X.K = K := by rfl) (hn : (assignEach es X.env).length = n := by rfl) (hst : (assignEach es X.env).findIdx? (·.1) = none := by rfl) :
    PG X (.Tuple es k pos) (gTup K n t) := by subst h; exact pg_tup hc hh hn hst
theorem pe_bmK {T id : String} {name : Str} {o e : Expr} {es : List Expr} {to : TE} {t : TA} {r : V → List V → Hp → VK → Prop} {apos cpos : Pos} (pa : PlainAttrs T) (slot : Slot T name id) (hty : typeOf (.builtin id) = pure (.type "method_descriptor")) (hm : MtR X id r) (ho : PE X o to) (ha : PA X (e :: es) t)
    (h : X.K = K := by rfl) (hbase : attributeBase o name X.env (eval o X.env) = eval o X.env := by rfl)
    (hfew : ((backTo cpos (starEach (e :: es) X.env)).all (fun x => !x.1) && (backToKw cpos (keywordEach [] X.env)).all (fun x => x.1.isSome)
      && decide ((e :: es).length + ([] : List Keyword).length + (if ([] : List Keyword).isEmpty then 0 else 1) < 30)) = true := by rfl)
    (hline : (apos.endLine == cpos.line) = true := by rfl) (hs : starEach (e :: es) X.env = (false, eval e X.env) :: starEach es X.env := by rfl) (hplain : (backTo cpos (starEach es X.env)).any (·.1) = false := by rfl) :
    PE X (.Call (.Attribute o name apos) (e :: es) [] cpos) (tBM K T r to t) := by subst h; exact pe_bm pa slot hty hm ho ha hbase hfew hline hs hplain
end
end Nv
set_option Elab.async false
set_option linter.all false
set_option maxRecDepth 100000
namespace Nv
open PySem PySem.Spec PyProof.Rows L2
open AutoSeq1 (wpAny_loadPart')
/-! ### enumerate(t), t a tuple -/
abbrev tupIt (t : Addr) : Obj := { cls := .type "tuple_iterator", data := .fields #[.ref t, .int 0 0] }
abbrev enumOb (i : Addr) : Obj := { cls := .type "enumerate", data := .fields #[.none, .bool false, .ref i, rawInt 0, .none, .none] }
theorem new_enumT (t : Addr) (xs : Array Value) (n : Nat) (dct : Option Addr) (sl : Array (Option Value)) :
    Meets (Builtin.«enumerate.__new__» ⟨[.type "enumerate", .ref t], []⟩) (fun _ R s => s.heap.get? t = some { cls := .type "tuple", dict := dct, data := .seq xs n, slots := sl } ∧
      R (.ok (.ret (.ref (s.heap.push (tupIt t)).objs.size))) { s with heap := (s.heap.push (tupIt t)).push (enumOb s.heap.objs.size) }) :=
  .of_wp fun prog w A R s h => by
    obtain ⟨hp, g, d, tk, os⟩ := s
    obtain ⟨ht, h⟩ := h
    have sub := sub_enumerate
    have hT : Heap.IsTuple (Shared.heap ⟨hp, g, d, tk, os⟩) t xs := ⟨_, ht, rfl, n, rfl⟩
    wp_walk using wpAny_loadPart' ht
    refine wpAny_stack_any fun st => wpAny_pure ?_
    split
    · rename_i c _ _ _ _ _
      cases (c == Value.type "enumerate")
      · wp_walk using wpAny_loadPart' ht, wpAny_pyIter_tuple hT
        exact ⟨_, rfl, h⟩
      · wp_walk using wpAny_loadPart' ht, wpAny_pyIter_tuple hT
        exact ⟨_, rfl, h⟩
    · wp_walk using wpAny_loadPart' ht, wpAny_pyIter_tuple hT
      exact ⟨_, rfl, h⟩
section
variable {prog : Program} {w : World} {A : Around} {E : Value → Shared → Prop} {s : Shared}
theorem call_enumT {t : Addr} {xs : Array Value} {Q : Value → Shared → Prop} (hT : s.heap.IsTuple t xs)
    (k : ∀ g, IsEnum g (s.heap.objs.size + 1) s.heap.objs.size 0 .none → g.IsTupleIter s.heap.objs.size t 0 → (∀ b o, s.heap.get? b = some o → g.get? b = some o) → Q (.ref (s.heap.objs.size + 1)) { s with heap := g }) :
    wpAny (model prog w) A (call (.type "enumerate") [.ref t]) Q E s := by
  obtain ⟨⟨c, dct, dt, sl⟩, ht, hc, n, hd⟩ := hT
  have hc2 : c = .type "tuple" := hc
  have hd2 : dt = .seq xs n := hd
  subst hc2 hd2
  refine callType_new F.called_enumerate (by decide) (F.typeCall_enumerate_1 _) (F.newCall_enumerate_1 _) (fun obj => F.args_object_init_2 obj _) F.entry_enumerate_new (new_enumT t xs n dct sl) ⟨ht, ?_⟩
  have sz : (s.heap.push (tupIt t)).objs.size = s.heap.objs.size + 1 := Heap.size_push ..
  have he := Heap.get?_push_size (s.heap.push (tupIt t)) (o := enumOb s.heap.objs.size) rfl
  rw [sz] at he
  show _ ∧ _
  rw [sz]
  exact ⟨⟨_, he, rfl⟩, k _ he ⟨_, Heap.get?_push_of_some _ (Heap.get?_push_size _ rfl), rfl, rfl⟩ fun b o x => Heap.get?_push_of_some _ (Heap.get?_push_of_some _ x)⟩
end
/-- the tuple at a, each item in a new pair with its number -/
def IteT (K : PySem.W.Frag) (a : Addr) : It :=
  ⟨fun i H => ∃ (xs : List V) (x : V), SqT K H a xs ∧ xs[i]? = some x, fun i H v H' => ∃ T x, v = .ref T ∧ H T = none ∧ H' = upd H T (.tup [.int (i : Nat), x]) ∧ ∀ xs, SqT K H a xs → xs[i]? = some x, fun i H => ∃ xs : List V, SqT K H a xs ∧ xs.length = i⟩
theorem turn_enumT {P : Program} {w : World} {K : PySem.W.Frag} {elts : List Expr} {kk : Nat} {tpos : Pos} (a e it : Addr) :
    Turn P w K (.Tuple elts kk tpos) (IteT K a) [e, it] e (fun i h => (∃ old, IsEnum h e it ((i : Nat) : Int) old) ∧ h.IsTupleIter it a i ∧ e ≠ it) where
  mem := by simp
  obj := fun i h st b hb => by
    obtain ⟨⟨old, he⟩, ⟨o, ho, hc, hd⟩, _⟩ := st
    rcases List.mem_cons.mp hb with z | z
    · rw [z]; exact ⟨_, he, fun v q => nomatch q⟩
    · rw [List.mem_singleton.mp z]; exact ⟨o, ho, fun v q => by rw [hd] at q; cases q⟩
  keep := fun i h h' st k => let ⟨⟨old, he⟩, hi, hne⟩ := st; ⟨⟨old, k e (by simp) _ he⟩, hi.at fun o q => k it (by simp) o q, hne⟩
  item := by
    intro X hP hw hK hc i pins s σ H E I hf st hg
    subst hP hw hK
    obtain ⟨⟨old, he⟩, hit, hne⟩ := st
    obtain ⟨xs, x, hq, hx⟩ := hg
    obtain ⟨its, rv, p, hz⟩ := I.tuple hq
    obtain ⟨u, hu, ru⟩ := rv.get hx
    have hel : e < s.heap.objs.size := Heap.lt_size he
    have hil : it < s.heap.objs.size := by obtain ⟨_, q, _⟩ := hit; exact Heap.lt_size q
    have hIT : s.heap.IsTuple a its.toArray := p
    have hail : a ≠ it := fun z => by
      obtain ⟨o, q1, q2, _⟩ := hit
      obtain ⟨o', q3, q4, _⟩ := hIT
      rw [z, q1] at q3
      cases q3
      rw [q2] at q4
      exact absurd q4 (by decide)
    have hae : e ∉ [it, a] := fun z => by
      rcases List.mem_cons.mp z with z | z
      · exact hne z
      · have z := List.mem_singleton.mp z
        obtain ⟨o', q3, q4, _⟩ := hIT
        have he' : s.heap.get? e = some _ := he
        rw [z, q3] at he'
        cases he'
        exact absurd q4 (show ¬ Value.type "enumerate" = Value.type "tuple" by decide)
    have D := Draws.tuple (prog := X.prog) (w := X.w) (A := X.A.in1) (I.ok.hd hc) it a hail its.toArray
    have hil2 : i < its.toArray.size := by
      have := (List.getElem?_eq_some_iff.mp hu).1
      simpa using this
    refine wpAny_pyNext_enum_itemD D he ⟨hit, hIT⟩ hil2 hne hae fun y g tk hy ho hst hT hsz hk => ?_
    have hyu : y = u := by
      have : its.toArray[i]? = some u := by simpa using hu
      rw [this] at hy
      exact (Option.some.inj hy).symm
    subst hyu
    refine ⟨_, rfl, wpAny_letOwnedTupleGo_enum (s := { s with heap := g, toks := tk + 1 }) ho fun g2 he' sb => ?_⟩
    have hT2 : g2.get? s.heap.objs.size = some { cls := .type "tuple", data := .seq #[.int i tk, y] } := (sb.2 _ (Nat.ne_of_gt hel)).trans hT
    have new : ObjOk X.prog X.w (upd H s.heap.objs.size (.tup [.int (i : Nat), x])) g2 s.heap.objs.size (.tup [.int (i : Nat), x]) :=
      ⟨by show 2 ≤ sizeLine; decide, [.int i tk, y], .cons ⟨_, rfl⟩ (.cons ru .nil), ⟨_, hT2, rfl, _, rfl⟩⟩
    have I1 : Inv X pins σ (upd H s.heap.objs.size (.tup [.int (i : Nat), x])) { s with heap := g2, toks := tk + 1 } :=
      I.turnedNew (ch := [e, it]) (fun b ob hb q => (sb.2 b (fun z => hb (by simp [z]))).trans (hk b ob (fun z => hb (by simp [z])) (fun z => hb (by simp [z])) q)) hf (Nat.le_refl _) new
    refine ⟨.ref s.heap.objs.size, _, I1, rfl, ⟨_, x, rfl, I.hok.fresh (Nat.le_refl _), rfl, fun ys hy => by rw [I.tuple_inj hy hq]; exact hx⟩, ⟨⟨y, ?_⟩, hst.1.at fun o q => (sb.2 it (Ne.symm hne)).trans q, hne⟩, fun b hb => ?_⟩
    · have e1 : ((i + 1 : Nat) : Int) = (i : Int) + 1 := by omega
      rw [e1]
      exact he'
    · have hb' : b < s.heap.objs.size := by
        rcases List.mem_cons.mp hb with z | z
        · rw [z]; exact hel
        · rw [List.mem_singleton.mp z]; exact hil
      rw [upd_ne (Nat.ne_of_lt hb')]
      exact (hf b hb).1
  done := by
    intro X hP hw hK hc i pins s σ H E I hf st hg
    subst hP hw hK
    obtain ⟨⟨old, he⟩, hit, hne⟩ := st
    obtain ⟨xs, hq, hx⟩ := hg
    obtain ⟨its, rv, p, hz⟩ := I.tuple hq
    have hIT : s.heap.IsTuple a its.toArray := p
    have hail : a ≠ it := fun z => by
      obtain ⟨o, q1, q2, _⟩ := hit
      obtain ⟨o', q3, q4, _⟩ := hIT
      rw [z, q1] at q3
      cases q3
      rw [q2] at q4
      exact absurd q4 (by decide)
    obtain ⟨f0, f1, f2, f3, f4, f5⟩ := hf it (by simp)
    have hl := rv.length
    have D := Draws.tuple (prog := X.prog) (w := X.w) (A := X.A.in1) (I.ok.hd hc) it a hail its.toArray
    have ei : i = its.toArray.size := by simp; omega
    rw [ei] at hit
    exact wpAny_pyNext_enum_endD D he ⟨hit, hIT⟩ fun g eb => ⟨rfl, I.turned (t' := s.toks) (fun b o hb q => eb b o hb q) f0 f1 f3 f4 f5⟩
  self := fun A i s Q E st h => let ⟨⟨_, he⟩, _⟩ := st; wpAny_pyIter_enum he h
def iEnumT (K : PySem.W.Frag) (ta : TA) : TI := fun σ H R => ta σ H fun vs H1 => ∃ a xs, vs = [.ref a] ∧ SqT K H1 a xs ∧ R (IteT K a) H1
theorem pi_enumT {X : Cx} {e : Expr} {ta : TA} {p pos tpos : Pos} {elts : List Expr} {kk : Nat} (hg : Gl X "enumerate") (hm : X.mg "enumerate" = none) (ha : PA X [e] ta) (hs : starEach [e] X.env = [(false, eval e X.env)] := by rfl) :
    PI X (.Tuple elts kk tpos) (.Call (.Name "enumerate" p) [e] [] pos) (iEnumT X.K ta) := by
  refine ⟨fun pins s σ H R I h => Call_ (ld_blt I hg hm boot_enumerate (PyProof.Rows.callWith_type1 (thn (ha.run pos pins s σ H _ I h) fun us s1 ⟨vs, H1, I1, r1, q1⟩ => ?_) hs rfl))⟩
  obtain ⟨a, xs, rfl, hq, q⟩ := q1
  obtain ⟨u, rfl, rx⟩ := vals1 r1
  cases rx
  obtain ⟨its, rv, p', hz⟩ := I1.tuple hq
  refine call_enumT (xs := its.toArray) p' fun g he hit hk => wpAny_pyIter_enum he ?_
  have I2 : Inv X pins σ H1 { s1 with heap := g } := I1.kept (t' := s1.toks) hk
  refine ⟨s1.heap.objs.size + 1, [s1.heap.objs.size + 1, s1.heap.objs.size], _, _, H1, rfl, I2, turn_enumT a (s1.heap.objs.size + 1) s1.heap.objs.size, ⟨⟨.none, he⟩, hit, Nat.succ_ne_self _⟩, fun b hb => ?_, q⟩
  have hle : s1.heap.objs.size ≤ b := by
    rcases List.mem_cons.mp hb with z | z
    · rw [z]; exact Nat.le_add_right _ _
    · rw [List.mem_singleton.mp z]; exact Nat.le_refl _
  exact I1.fpOk hle (I1.hok.fresh hle)
theorem walk_enumT {K : PySem.W.Frag} {a : Addr} {xs : List V} : Walk (IteT K a) xs.length (fun H => SqT K H a xs) (YPair (fun i => some (.int (i : Nat))) (fun i => xs[i]?)) where
  goes := fun i H hi h => ⟨xs, xs[i], h, List.getElem?_eq_getElem hi⟩
  stops := fun H h => ⟨xs, h, rfl⟩
  yields := fun i H x H' _ h y => by
    obtain ⟨T, z, e1, e2, e3, e4⟩ := y
    exact ⟨T, .int (i : Nat), z, e1, e2, e3, rfl, e4 xs h⟩
end Nv
set_option Elab.async false
set_option linter.all false
set_option maxRecDepth 100000
/-! several clauses 'except X as n', all of one name n (slot i) -/
namespace Nv
open PySem PySem.Spec PyProof.Rows L2
abbrev Cl := Value × (Addr → Value → Option Addr → TS)
/-- behind the suite the slot is empty -/
abbrev dropS (i : Nat) (D : Ends) : Ends := { nx := fun σ H => D.nx (σ.set i none) H, rt := D.rt, bk := fun σ H => D.bk (σ.set i none) H, ct := fun σ H => D.ct (σ.set i none) H }
def wAll (K : PySem.W.Frag) (Wout : WX) (D : Ends) (i : Nat) : List Cl → WX
  | [] => Wout
  | p :: r => fun cls d σ H => ∃ yes, PySem.W.exmOne K cls p.1 = some yes ∧ (yes = true → ∀ a, H a = none → p.2 a cls d (dropS i D) (σ.set i (some (.ref a))) H) ∧ (yes = false → wAll K Wout D i r cls d σ H)
/-- the clauses, each with its suite's reading -/
inductive Cls (X : Cx) (n : Str) : List ExceptHandler → List Cl → Prop
  | none : Cls X n [] []
  | one {x : Str} {c : Value} {ts : Addr → Value → Option Addr → TS} {st : Stmt} {more : List Stmt} {np hp : Pos} {hs : List ExceptHandler} {l : List Cl} (nm : Names X x c)
      (su : ∀ (a : Addr) (oe : Obj) (cls : Value) (d : Option Addr) (pn : List (Addr × Obj)), Zc cls d oe → (∃ vs, oe.data = .fields vs) → PSs (X.suite a ((a, oe) :: pn)) (st :: more) (ts a cls d)) (rest : Cls X n hs l) :
      Cls X n (.ExceptHandler (some (.Name x np)) (some n) (st :: more) hp :: hs) ((c, ts) :: l)
section
variable {X : Cx} {n : Str} {i : Nat} {Wout : WX} {D : Ends} {pins : List (Addr × Obj)} {σ : L2.St} {H : Hp} {B : Heap} {a : Addr} {cls : Value} {d : Option Addr}
/-- the clauses looked at one after the other; the exception at a flies over this frame in the heap h3 -/
theorem clauses_run (hf : X.env.frame = some X.env.locals) (hN : X.N.Nodup) (hi : X.N[i]? = some n) (hln : X.env.kindOf n = some .local) (tk : Takes X Wout) {s' : Shared} {h3 : Heap} (ok : X.Ok)
    (na : H a = none) (nL : a ≠ X.env.locals) (nF : a ∉ X.fs) (here : Inv X pins σ H { s' with heap := h3 })
    (land : ∀ h4, HandSPX.FlyingZ B (X.env :: X.outer) a (Zc cls d) h4 → h3.UpToSlots h4 → Inv X pins σ H { s' with heap := h4 }) (fly : HandSPX.FlyingZ B (X.env :: X.outer) a (Zc cls d) h3)
    (out : Wout cls d σ H → ∀ h4, HandSPX.HeldZ B (X.env :: X.outer) a (Zc cls d) X.env.locals h4 → h3.UpToSlots h4 → XE X Wout (.ref a) { s' with heap := h4 }) :
    ∀ {hds : List ExceptHandler} {l : List Cl}, Cls X n hds l → wAll X.K Wout D i l cls d σ H → wpAny (model X.prog X.w) X.A (handleBy (.ref a) X.env hds) (SP X pins D) X.xe { s' with heap := h3 } := by
  intro hds l hc
  obtain ⟨oe, vs, he, hz, hd⟩ := fly.there
  induction hc with
  | none =>
    intro w
    obtain ⟨_, _, _, _, vs2, T, _, _, he2, _, hd2, h1, _⟩ := id fly
    refine wpAny_handleBy_nil ?_
    unfold PySem.passOn
    refine wpAny_bind (wpAny_field he2 hd2 h1 ?_)
    rw [if_neg (by simp)]
    have leave : wpAny (model X.prog X.w) X.A (setFlight (.ref a) X.env.frame) (fun _ s4 => wpAny (model X.prog X.w) X.A (throw (.ref a) : Sem Flow) (SP X pins D) X.xe s4) X.xe { s' with heap := h3 } := by
      rw [hf]
      exact HandSPX.setFlight_upZ fly fun h4 held up4 => wpAny_throw (tk _ _ (out w h4 held up4))
    first
      | exact wpAny_bind leave
      | exact wpAny_bind (wpAny_pure (wpAny_bind leave))
  | @one x c ts st more np hp hs l nm su rest ih =>
    rintro ⟨yes, hy, w1, w2⟩
    have S3 := here.suite he hd na nL nF
    have cl : PySem.W.Looks (model X.prog X.w) h3 (typeOf (.ref a)) cls := fun A Q E s k q => wpAny_typeOf_ref (k _ _ he) (by rw [hz.1]; exact q)
    refine wpAny_handleBy_cons (codeAny_handlers_test ?_) (fun q => by cases q)
    have named : ∀ {Q E : Value → Shared → Prop}, Q c { s' with heap := h3 } → wpAny (model X.prog X.w) (X.A.mark (some (.ref a))) (eval (.Name x np) X.env) Q E { s' with heap := h3 } := fun {Q E} q => by
      obtain ⟨hg, hdb, hm | ⟨hm, hv, hn⟩⟩ := nm
      · exact ld_glob (X := X.suite a ((a, oe) :: (X.pn ++ pins))) S3 hg hm q hdb
      · exact ld_blt (X := X.suite a ((a, oe) :: (X.pn ++ pins))) S3 hg hm hv q hn hdb
    refine named ((PySem.W.exm_one (M := model X.prog X.w) here.kIn cl hy).here ?_)
    cases yes with
    | false => exact ih (w2 rfl)
    | true =>
      refine codeAny_handlers_suite_as (HandSPX.lands_againZ fly fun h4 fly4 up4 => ?_)
      have J4 := land h4 fly4 up4
      obtain ⟨oe4, vs4, he4, hz4, hd4⟩ := fly4.there
      refine store_ok (X := X.suite a ((a, oe4) :: (X.pn ++ pins))) (v := .ref a) (J4.suite he4 hd4 na nL nF) hN hi (.inl hln) rfl (fun s5 S5 => ?_) (.inr hln)
      have after : ∀ {s6 : Shared} {σ6 : L2.St} {H6 : Hp} {R : Shared → Prop}, Inv (X.suite a ((a, oe4) :: (X.pn ++ pins))) [] σ6 H6 s6 → (∀ s7, Inv X pins (σ6.set i none) H6 s7 → R s7) →
          wpAny (model X.prog X.w) X.A (do bindName X.env n .none; unbindBehindTheSuite X.env n hp) (fun _ s7 => R s7) X.xe s6 := fun {s6 σ6 H6 R} S6 hq => gone_ok (S6.unsuite ok) hN hi hln hq
      refine wpAny_mono ((su a oe4 cls d (X.pn ++ pins) hz4 ⟨_, hd4⟩).run [] s5 _ H _ S5 (w1 rfl a na)) (fun fl s6 hsp => ?_) (fun _ _ z => False.elim z)
      cases fl with
      | ret u =>
        obtain ⟨v, σ6, H6, S6, r, q⟩ := hsp
        exact after S6 fun s7 J7 => ⟨_, _, _, J7, r, q⟩
      | next =>
        obtain ⟨σ6, H6, S6, q⟩ := hsp
        exact after S6 fun s7 J7 => ⟨_, _, J7, q⟩
      | brk =>
        obtain ⟨σ6, H6, S6, q⟩ := hsp
        exact after S6 fun s7 J7 => ⟨_, _, J7, q⟩
      | cont =>
        obtain ⟨σ6, H6, S6, q⟩ := hsp
        exact after S6 fun s7 J7 => ⟨_, _, J7, q⟩
end
section
variable {X : Cx} {n : Str} {i : Nat} {body : List Stmt} {hd0 : ExceptHandler} {hds : List ExceptHandler} {l : List Cl} {pos : Pos} {tb : WX → TS} {Wout : WX}
theorem ps_try_all (hs : X.stack = X.env :: X.outer) (hf : X.env.frame = some X.env.locals) (hN : X.N.Nodup) (hi : X.N[i]? = some n) (hln : X.env.kindOf n = some .local) (tk : Takes X Wout)
    (hb : ∀ (W : WX) (pn : List (Addr × Obj)) (xe : Value → Shared → Prop), Takes (X.tr pn xe) W → PassesOwn (model X.prog X.w) X.A X.env xe → PSs (X.tr pn xe) body (tb W)) (hc : Cls X n (hd0 :: hds) l) :
    PS X (.Try body (hd0 :: hds) [] [] pos) (fun D σ H => tb (wAll X.K Wout D i l) D σ H) := by
  refine ⟨fun pins s σ H D I h => wpAny_Try_except ?_⟩
  have ok := I.ok
  have hfr : X.A.frames = some (X.env :: X.outer) := by rw [ok.frames, hs]
  have run := (hb (wAll X.K Wout D i l) (X.pn ++ pins) (fun e s₁ => wpAny (model X.prog X.w) X.A (noteFrame e X.env) (fun _ s₂ => wpAny (model X.prog X.w) X.A (setFlight e none) (fun _ s₃ => wpAny (model X.prog X.w) X.A (handleBy e X.env (hd0 :: hds)) (SP X pins D) X.xe s₃) X.xe s₂) X.xe s₁)
    (fun u s' xx => ?_) PassesOwn.looking).run [] s σ H D (I.toTry _) h
  · refine wpAny_mono run (fun fl s1 hsp => ?_) (fun e s1 he => he)
    cases fl with
    | ret u =>
      obtain ⟨v, σ', H', J, r, q⟩ := hsp
      exact ⟨v, σ', H', J.ofTry ok, r, q⟩
    | next =>
      obtain ⟨σ', H', J, q⟩ := hsp
      exact wpAny_execs_nil ⟨σ', H', J.ofTry ok, q⟩
    | brk =>
      obtain ⟨σ', H', J, q⟩ := hsp
      exact ⟨σ', H', J.ofTry ok, q⟩
    | cont =>
      obtain ⟨σ', H', J, q⟩ := hsp
      exact ⟨σ', H', J.ofTry ok, q⟩
  · obtain ⟨a, B, sI, _, σ', H', cls, d, rfl, J', nb, up, sky, na, os, ag, w⟩ := xx
    have J : Inv X pins σ' H' sI := J'.ofTry ok
    have sky' : Sky B (X.env :: X.outer) a (Zc cls d) X.env.locals s'.heap := by rw [← hs]; exact sky
    show wpAny (model X.prog X.w) X.A (noteFrame (.ref a) X.env) _ _ _
    refine Sky.land Zc.steady hfr hf sky' fun h3 fly up3 => ?_
    have land : ∀ h4, HandSPX.FlyingZ B (X.env :: X.outer) a (Zc cls d) h4 → h3.UpToSlots h4 → Inv X pins σ' H' { s' with heap := h4 } := fun h4 f4 u4 => J.landed nb f4.1 ((up.trans up3).trans u4) os ag
    have here : Inv X pins σ' H' { s' with heap := h3 } := J.landed nb fly.1 (up.trans up3) os ag
    obtain ⟨oe, vs, he, hz, hd⟩ := fly.there
    have nfr : a ∉ frs (X.env :: X.outer) := fun hm => by
      obtain ⟨_, o', e', no⟩ := fly.2.2.1.mem hm
      rw [he] at e'
      cases e'
      exact no _ hd
    have nL : a ≠ X.env.locals := fun z => nfr (List.mem_filterMap.mpr ⟨X.env, List.mem_cons_self, by rw [hf, z]⟩)
    have nF : a ∉ X.fs := fun hm => by
      obtain ⟨e, h1, h2⟩ := List.mem_filterMap.mp hm
      exact nfr (List.mem_filterMap.mpr ⟨e, List.mem_cons_of_mem _ h1, h2⟩)
    refine clauses_run hf hN hi hln tk ok na nL nF here land fly (fun wo h4 held u4 => ?_) hc w
    exact ⟨a, B, sI, pins, σ', H', cls, d, rfl, J, nb, (up.trans up3).trans u4, .inr (.inr (by rw [hs]; exact held)), na, os, ag, wo⟩
end
end Nv
set_option Elab.async false
set_option linter.all false
set_option maxRecDepth 100000
/-! own exceptions with two fields: what, and kind, the name of their class -/
namespace Nv
open PySem PySem.Spec PyProof.Rows L2
/-- what an exception tells of its class C and of the class's name -/
structure ExcN (K : PySem.W.Frag) (C : Addr) (nm : Str) : Prop where
  ga : PySem.W.findIn K (.ref C) "__getattribute__" = some (some (.builtin "BaseException.__getattribute__"))
  gg : PySem.W.findIn K (.ref C) "__getattr__" = some none
  exC : PySem.W.subIn K (.ref C) (.type "BaseException") = some true
  isc : PySem.W.isClsIn K C = true
  ca : PySem.W.findIn K (.ref C) "__class__" = some (some (.builtin "object.__class__"))
  cn : PySem.W.specialIn K (.builtin "object.__class__") "__get__" = some (some (.builtin "getset_descriptor.__get__"))
  ct : PySem.W.takesIn K (.builtin "object.__class__") = some true
  cm : PySem.W.mroIn K C (.type "object") = some true
  rd : PySem.W.readsIn K C (.type "type") = true
  fn : PySem.W.findCls K (.ref C) (.type "type") "__name__" = some (.get (.builtin "getset_descriptor.__get__") (.builtin "type.__name__") (.ref C) (.type "type"))
  sl : ∃ c d dt sl tk, K.lookup C = some ⟨c, d, dt, sl⟩ ∧ sl[2]? = some (some (.str nm tk))
  nk : PySem.W.findIn K (.ref C) "kind" = some none
section
open PySem.Calls Builtin.Getset_descriptor
variable {prog : Program} {w : World} {A : Around} {E : Value → Shared → Prop} {s : Shared} {K : PySem.W.Frag} {x D : Addr} {ox : Obj} {od : Option Obj} {nm : Str}
theorem exc_cls {expr : Bool} {Q : Value → Shared → Prop} (N : ExcN K D nm) (hf : PySem.W.findObj K D od "__class__" = some (.bind (.builtin "getset_descriptor.__get__") (.builtin "object.__class__")))
    (X : K.In s.heap) (I : PySem.W.InstAt s.heap x ox D od) (h : Q (.ref D) { s with toks := s.toks + 1 }) : wpAny (model prog w) A (getAttr (.ref x) "__class__" expr) Q E s := by
  obtain ⟨hp, g, d, t, os⟩ := s
  have L0 := I.type (M := model prog w)
  have L1 := PySem.W.looks_findIn (M := model prog w) X N.ga
  have L2 := PySem.W.looks_findIn (M := model prog w) X N.gg
  have L3 := PySem.W.looks_find (M := model prog w) X I hf
  have sub : PySem.W.Looks (model prog w) hp (isInstance (.ref x) (.type "BaseException")) true := L0.andThen (PySem.W.looks_subIn X N.exC)
  have hx0 : (expr && onTheHeap (Value.builtin "BaseException.__getattribute__")) = false := by cases expr <;> rfl
  have hx2 : (Value.builtin "BaseException.__getattribute__" == Value.builtin "object.__getattribute__") = false := by decide +kernel
  have hx1 : (onTheHeap (Value.ref D) && Value.builtin "BaseException.__getattribute__" == Value.builtin "object.__getattribute__") = false := by rw [hx2]; rfl
  unfold getAttr getAttrBy
  refine wpAny_bind (wpAny_mkText (wpAny_holding (wpAny_bind (L0.at (wpAny_bind (L1.at ?_))))))
  show wpAny _ _ (if (onTheHeap (Value.ref D) && Value.builtin "BaseException.__getattribute__" == Value.builtin "object.__getattribute__") = true then _ else _) _ _ _
  rw [hx1, if_neg Bool.false_ne_true]
  unfold getAttrByItsOwn hookBefore
  refine wpAny_bind ?_
  rw [if_pos (show onTheHeap (Value.ref D) = true from rfl)]
  refine L2.at ?_
  refine wpAny_bind (wpAny_attempt (wpAny_holding ?_))
  unfold callGetattribute
  rw [hx0, if_neg Bool.false_ne_true]
  unfold boundAndCalled
  rw [PySem.F.excAttr_ValueError.ga.bind (.ref x)]
  refine wpAny_bind (wpAny_pure ?_)
  show wpAny _ _ (call (.builtin "BaseException.__getattribute__") [.ref x, .str "__class__" t]) _ _ _
  refine wpAny_call (codeAny_call_builtin PySem.F.excAttr_ValueError.ga.plain PySem.F.entry_bexc_ga ?_)
  refine @PySem.W.check_slot (model prog w) _ _ ⟨hp, g, d, t + 1, os⟩ "BaseException.__getattribute__" "BaseException" "__getattribute__" (.ref x) [.str "__class__" t] [] _ (by decide +kernel) (by decide +kernel) sub (PySem.F.args_bexc_ga (.ref x) (.str "__class__" t)) ?_
  unfold Builtin.«object.__getattribute__»
  refine wpAny_bind (wpAny_of_eq (a := ((Value.ref x : Value), [Value.str "__class__" t])) (by first | rfl | (simp only [slotArgs]; rfl)) ?_)
  refine wpAny_bind (wpAny_pure (wpAny_bind (L0.at (wpAny_bind (L3.at ?_)))))
  show wpAny _ _ (holding [Value.builtin "object.__class__"] (call (.builtin "getset_descriptor.__get__") [.builtin "object.__class__", .ref x, .ref D]) >>= ret) _ _ _
  refine wpAny_bind (wpAny_holding (wpAny_call (PySem.W.class_get (s := ⟨hp, g, d, t + 1, os⟩) (ox := ox) (od := od) X I N.cm ?_)))
  refine wpAny_pure ?_
  show wpAny _ _ (handedOut (.ref D)) _ _ _
  rw [PySem.W.handedOut_of (v := .ref D) rfl]
  first
    | exact wpAny_pure (wpAny_pure h)
    | exact wpAny_pure h
    | exact wpAny_pure (wpAny_bind (wpAny_pure (wpAny_pure h)))
theorem cname_get {tp v : Value} {R : Result → Shared → Prop} (X : K.In s.heap) (ht : PySem.W.typeIn K (.ref D) = some (.type "type")) {c : Value} {dd : Option Addr} {dt : Data} {sl : Array (Option Value)} (hC : K.lookup D = some ⟨c, dd, dt, sl⟩) (hs : sl[2]? = some (some v))
    (h : R (.ok (.ret v)) s) : codeAny (model prog w) A (.call (.builtin "getset_descriptor.__get__") ⟨[.builtin "type.__name__", .ref D, tp], []⟩) R s := by
  obtain ⟨hh, g, dr, t, os⟩ := s
  have L0 : PySem.W.Looks (model prog w) hh (typeOf (.ref D)) (.type "type") := PySem.W.looks_typeIn X ht
  have L1 : PySem.W.Looks (model prog w) hh (isSubtype (.type "type") (.type "type")) true := PySem.W.Looks.of_pure (by rw [isSubtype_type]; kernel_rfl)
  have ho := X _ _ hC
  dsimp only at ho
  refine codeAny_call_builtin PySem.W.KF.slot_gs.plain PySem.W.KF.entry_gs (PySem.W.KF.slot_gs.check _ _ _ _ _ _ _ _ PySem.W.ktyn_type (PySem.W.KF.args_gs _ _ _) ?_)
  unfold Builtin.«getset_descriptor.__get__» descrGet
  rw [PySem.W.dga_obj]
  refine wpAny_bind (wpAny_pure ?_)
  unfold descrGetter descrCheckInstance descrNameAndClass isInstance
  simp only [PySem.W.ktyn_owner]
  repeat lk
  refine ⟨Code.quiet_builtin _ (by decide +kernel), codeAny_builtin PySem.W.ktyn_entry ?_⟩
  unfold Builtin.«type.__name__»
  dsimp only
  unfold Builtin.keptObject PySem.slotAt
  dsimp only
  refine wpAny_bind (wpAny_bind (wpAny_loadPart_at ho (wpAny_pure ?_)))
  dsimp only
  rw [hs]
  exact wpAny_pure h
theorem exc_name {expr : Bool} {Q : Value → Shared → Prop} (N : ExcN K D nm) (X : K.In s.heap) (h : ∀ tk, Q (.str nm tk) { s with toks := s.toks + 1 }) : wpAny (model prog w) A (getAttr (.ref D) "__name__" expr) Q E s := by
  obtain ⟨c, dd, dt, sl, tk, hC, hs⟩ := N.sl
  have rd := N.rd
  simp only [PySem.W.readsIn, Bool.and_eq_true, beq_iff_eq] at rd
  refine PySem.W.cls_read X N.rd N.fn ?_
  show wpAny _ _ (do ret (← holding [Value.builtin "type.__name__"] (call (.builtin "getset_descriptor.__get__") [.builtin "type.__name__", .ref D, .type "type"]))) _ _ _
  refine wpAny_bind (wpAny_holding (wpAny_call (cname_get (s := { s with toks := s.toks + 1 }) X rd.1.1.1.2 hC hs ?_)))
  exact wpAny_pure (PySem.W.handed_on rfl (h _))
end
/-- e.__class__.__name__, e an exception that is being made -/
def tKind (K : PySem.W.Frag) (te : TE) : TE := fun σ H Q => te σ H fun x H1 => ∃ (a C dx : Addr) (fs : List (Str × V)) (nm : Str), x = .ref a ∧ H1 a = some (exo a C (some dx)) ∧ H1 dx = some (exd dx fs) ∧ ExcN K C nm ∧ Q (.str nm) H1
theorem pe_kind {X : Cx} {e : Expr} {te : TE} {p pos : Pos} (he : PE X e te) (hb : attributeBase e "__class__" X.env (eval e X.env) = eval e X.env := by rfl)
    (hb2 : attributeBase (.Attribute e "__class__" p) "__name__" X.env (eval (.Attribute e "__class__" p) X.env) = eval (.Attribute e "__class__" p) X.env := by rfl) : PE X (.Attribute (.Attribute e "__class__" p) "__name__" pos) (tKind X.K te) := by
  refine ⟨fun pins s σ H Q I h => attr_of hb2 (attr_of hb (thn (he.run pins s σ H _ I h) ?_))⟩
  rintro u s1 ⟨x, H1, I1, rx, a, C, dx, fs, nm, rfl, ea, ed, N, q⟩
  obtain rfl : u = Value.ref a := rx
  obtain ⟨t1, ho⟩ := exo_at I1.hok ea
  obtain ⟨mA, ⟨od, es, ep, ho2, hr⟩, rel⟩ := exd_at I1.hok ed
  have J : PySem.W.InstAt s1.heap a { cls := .ref C, dict := some dx, data := .fields #[.ref t1, .none, .none, .none, .bool false, .none] } C (some od) := ⟨ho, rfl, rfl, ho2⟩
  refine exc_cls N (PySem.W.findObj_data N.isc N.ca N.cn N.ct) I1.kIn J ?_
  refine exc_name (s := { s1 with toks := s1.toks + 1 }) N I1.kIn fun tk => ?_
  exact ⟨.str nm, H1, (I1.tok _).tok _, ⟨tk, rfl⟩, q⟩
/-- a class of the program's exceptions, with the __init__ at fI -/
structure ExcC (K : PySem.W.Frag) (mg : Str → Option Value) (name : Str) (fI : Addr) where
  C : Addr
  g : mg name = some (.ref C)
  o : OexC K C
  i : PySem.W.findIn K (.ref C) "__init__" = some (some (.ref fI))
  ga : PySem.W.findIn K (.ref C) "__getattribute__" = some (some (.builtin "BaseException.__getattribute__"))
  gg : PySem.W.findIn K (.ref C) "__getattr__" = some none
  no : PySem.W.findIn K (.ref C) "what" = some none
  nn : ExcN K C name
  hd : PySem.W.hasDictIn K C = true
  isc : PySem.W.isClsIn K C = true
/-- does 'except B' take an exception of the class A -/
theorem exm_is {K : PySem.W.Frag} {mg : Str → Option Value} {nA nB : Str} {fA fB : Addr} (A : ExcC K mg nA fA) (B : ExcC K mg nB fB) {b : Bool} (h : PySem.W.subIn K (.ref A.C) (.ref B.C) = some b) : PySem.W.exmOne K (.ref A.C) (.ref B.C) = some b := by
  have h1 : (PySem.W.subIn K (.ref B.C) (.type "BaseException") == some true) = true := by rw [B.o.exC] <;> rfl
  have h2 : ((PySem.W.clsIn K B.C).isSome && PySem.W.typeIn K (.ref B.C) == some (.type "type")) = true := by
    have e : (PySem.W.clsIn K B.C).isSome = true := B.isc
    rw [e, B.o.tyC] <;> rfl
  unfold PySem.W.exmOne
  rw [if_pos h1]
  show (if ((PySem.W.clsIn K B.C).isSome && PySem.W.typeIn K (.ref B.C) == some (.type "type")) = true then PySem.W.subIn K (.ref A.C) (.ref B.C) else none) = some b
  rw [if_pos h2]
  exact h
/-- __init__(self, what) -/
def sp_init (K : PySem.W.Frag) : Sp := fun vs H Q _ => ∃ (a C : Addr) (y : V) (nm : Str), vs = [.ref a, y] ∧ H a = some (exo a C none) ∧ OexC K C ∧ PySem.W.findIn K (.ref C) "what" = some none ∧ ExcN K C nm ∧
  ∀ dx, H dx = none → dx ≠ a → Q .non (upd (upd H dx (exd dx [("kind", .str nm), ("what", y)])) a (exo a C (some dx)))
abbrev xdW (nm : Str) (y : V) : HO := .xd [(("kind" : Str), V.str nm), (("what" : Str), y)]
/-- at dx: the dict of an exception of the program, its what is y -/
def XdAt (H : Hp) (dx : Addr) (y : V) : Prop := ∃ nm, H dx = some (xdW nm y)
/-- X(e) -/
def tMkX (C : Addr) (nm : Str) (te : TE) : L2.St → Hp → XK → Prop := fun σ H Q => te σ H fun y H1 => ∀ d, H1 d = none → Q (.ref C) (some d) (upd H1 d (xdW nm y))
/-- a word between an expression and what follows -/
def tMd (t : TE) : TE := fun σ H Q => ∃ M : VK, t σ H M ∧ ∀ v H', M v H' → Q v H'
theorem pe_md {X : Cx} {e : Expr} {t : TE} (h : PE X e t) : PE X e (tMd t) := ⟨fun pins s σ H Q I ⟨M, h1, h2⟩ => thn (h.run pins s σ H M I h1) fun u s' ⟨v, H', I', r, m⟩ => ⟨v, H', I', r, h2 v H' m⟩⟩
section
variable {X : Cx} {name : Str} {fI : Addr} {k : Nat} {fd : FuncData} {e : Expr} {te : TE} {p pos : Pos}
theorem pmk_X (D : ExcC X.K X.mg name fI) (tI : PySem.W.typeIn X.K (.ref fI) = some (.type "function")) (F : FnOk X.prog X.w X.K X.mg X.base CX0 k fI fd ["self", "what"] (sp_init X.K)) (hr : Room (k + 1) X.A) (hb : Binds X.K fd ["self", "what"] []) (hg : Gl X name)
    (he : PE X e te) (hdb : (name == ("__debug__" : Str)) = false := by decide) (hs : starEach (e :: []) X.env = (false, eval e X.env) :: starEach [] X.env := by rfl) (hpl : (backTo pos (starEach [] X.env)).any (·.1) = false := by rfl) :
    PMk X (.Call (.Name name p) [e] [] pos) (tMkX D.C name te) := by
  intro pins s σ H Q I h
  refine pmk_oex (ta := tCons (tMd te) tNil) D.o D.i tI F hr hb (.nil : Vals [] []) pass0 hg D.g (pa_cons (pe_md he) pa_nil hs) hdb hs hpl pins s σ H Q I ?_
  refine ⟨_, h, fun y H1 hy => ⟨(by show 1 ≤ 1000; decide), fun a na => ⟨a, D.C, y, name, rfl, upd_same, D.o, D.no, D.nn, fun dx nd ne => ?_⟩⟩⟩
  have nd1 : H1 dx = none := by rw [← nd, upd_ne ne]
  refine ⟨rfl, dx, [(("kind" : Str), V.str name), (("what" : Str), y)], upd_same, ?_, nd1, ?_⟩
  · rw [upd_ne ne, upd_same]
  · have e : upd (del (upd (upd (upd H1 a (exo a D.C none)) dx (exd dx [("kind", .str name), ("what", y)])) a (exo a D.C (some dx))) a) dx (xdW name y) = upd H1 dx (xdW name y) := by
      funext b
      by_cases h1 : b = dx
      · rw [h1, upd_same, upd_same]
      · rw [upd_ne h1, upd_ne h1]
        by_cases h2 : b = a
        · rw [h2, del_same, na]
        · rw [del_ne h2, upd_ne h2, upd_ne h1, upd_ne h2]
    rw [e]
    exact hy dx nd1
/-- e.what, e the exception that the suite holds at a -/
def tWhat (C a : Addr) (cls : Value) (d : Option Addr) (te : TE) : TE := fun σ H Q => te σ H fun x H1 => x = .ref a ∧ cls = .ref C ∧ ∃ (dd : Addr) (y : V), d = some dd ∧ XdAt H1 dd y ∧ Q y H1
theorem pe_what {a : Addr} {oe : Obj} {cls : Value} {d : Option Addr} {pn : List (Addr × Obj)} (D : ExcC X.K X.mg name fI) (hz : Zc cls d oe) (hf : ∃ vs, oe.data = .fields vs) (he : PE (X.suite a ((a, oe) :: pn)) e te)
    (hb : attributeBase e "what" X.env (eval e X.env) = eval e X.env := by rfl) : PE (X.suite a ((a, oe) :: pn)) (.Attribute e "what" pos) (tWhat D.C a cls d te) := by
  refine ⟨fun pins s σ H Q I h => attr_of hb (thn (he.run pins s σ H _ I h) ?_)⟩
  rintro u s1 ⟨x, H1, I1, rx, rfl, rfl, dd, y, rfl, ⟨nm, ea⟩, q⟩
  obtain rfl : u = Value.ref a := rx
  obtain ⟨ha, _⟩ := I1.pin (a, oe) (List.mem_append_left _ List.mem_cons_self)
  obtain ⟨vs, hd⟩ := hf
  obtain ⟨mA, hns, hr⟩ : ObjOk X.prog X.w H1 s1.heap dd (xdW nm y) := I1.hok dd _ ea
  obtain ⟨od, ho, hl⟩ := lookIn_ns hns
  have l : List.lookup ("what" : Str) [(("kind" : Str), V.str nm), (("what" : Str), y)] = some y := by
    rw [lookup_put, if_neg (by decide +kernel), lookup_put, if_pos rfl]
  obtain ⟨u, hu, ru⟩ := RelO.some_of (v := y) (o := mA "what") (by rw [← l]; exact hr "what")
  have J : PySem.W.InstAt s1.heap a oe D.C (some od) := ⟨ha, hz.1, by unfold PySem.W.notCls; rw [hd] <;> rfl, by rw [hz.2]; exact ho⟩
  exact HandSPX.exc_get I1.kIn J D.ga D.gg D.o.exC (PySem.W.findObj_own D.hd D.no rfl (by rw [hl, hu])) (handed_of ru) ⟨y, H1, I1.tok _, ru, q⟩
end
end Nv
set_option Elab.async false
set_option linter.all false
set_option maxRecDepth 100000
namespace Nv
open PySem PySem.Spec PyProof.Rows L2
def topS (i : Nat) : Stmt := PySem.Challenge.pw_neverfour_k92_forks_and_windows_refused.main.body.getD i (.Pass ⟨0, 0, 0, 0⟩)
abbrev s_whole : Stmt := topS 1
abbrev s_whole_within : Stmt := topS 2
abbrev s_tuple_within : Stmt := topS 3
abbrev s_first_rows : Stmt := topS 4
abbrev s_made_book : Stmt := topS 20
abbrev s_check_form : Stmt := topS 21
abbrev s_has_state_form : Stmt := topS 22
abbrev s_check_state : Stmt := topS 23
abbrev s_check_message : Stmt := topS 24
abbrev s_stands : Stmt := topS 25
abbrev s_forks : Stmt := topS 27
abbrev s_leads : Stmt := topS 28
abbrev s_fork_states : Stmt := topS 29
abbrev s_led_to : Stmt := topS 30
abbrev s_reach : Stmt := topS 31
abbrev s_knots : Stmt := topS 34
abbrev s_ring_forks : Stmt := topS 35
abbrev s_cut_rows : Stmt := topS 36
abbrev s_rays : Stmt := topS 37
abbrev s_first_fork : Stmt := topS 38
abbrev s_ways_back : Stmt := topS 39
abbrev s_ring_states : Stmt := topS 40
abbrev s_forks_on_rings : Stmt := topS 41
abbrev s_cut_ends : Stmt := topS 42
abbrev s_made_window : Stmt := topS 44
abbrev s_check_number : Stmt := topS 45
abbrev s_ranks : Stmt := topS 46
abbrev s_lasting : Stmt := topS 47
abbrev s_special : Stmt := topS 48
abbrev s_special_for : Stmt := topS 49
abbrev s_leading_to : Stmt := topS 50
abbrev s_ranks_for : Stmt := topS 51
abbrev s_lasting_for : Stmt := topS 52
abbrev s_least_wires : Stmt := topS 55
abbrev s_from_window : Stmt := topS 56
abbrev s_verdict : Stmt := topS 57
abbrev s_least_for : Stmt := topS 58
abbrev s_least_free : Stmt := topS 59
abbrev s_ray_counts : Stmt := topS 60
abbrev s_law_pool : Stmt := topS 62
abbrev s_law_draw : Stmt := topS 63
abbrev s_law_pick : Stmt := topS 64
abbrev s_law_book_meeting : Stmt := topS 65
abbrev s_law_book_messages : Stmt := topS 66
abbrev s_law_book_drawn : Stmt := topS 67
abbrev s_law_win_heard : Stmt := topS 68
abbrev s_law_win_no_books : Stmt := topS 69
abbrev s_law_win_no_windows : Stmt := topS 70
abbrev s_law_alone : Stmt := topS 71
abbrev s_law_more : Stmt := topS 72
abbrev s_law_bent_states : Stmt := topS 73
abbrev s_law_books_refused : Stmt := topS 74
abbrev s_law_more_refused : Stmt := topS 75
abbrev s_law : Stmt := topS 76
structure DefAt (K : PySem.W.Frag) (mg : Str → Option Value) (name : Str) (st : Stmt) (ps : List Str) where
  f : Addr
  fd : FuncData
  F : Fun K name name st f fd
  g : mg name = some (.ref f)
  bd : ∀ us : List Value, us.length = ps.length → bindArgs fd ⟨us, []⟩ = pure (ps.zip us)
structure FunE (K : PySem.W.Frag) (x qual : Str) (st : Stmt) (dvs : List V) (f : Addr) (fd : FuncData) : Prop where
  d : FunD K x qual (defArgs st) (defBody st) (defScope st) dvs [] f fd
theorem FunE.kp {K : PySem.W.Frag} {x qual : Str} {st : Stmt} {dvs : List V} {f : Addr} {fd : FuncData} (F : FunE K x qual st dvs f fd) : PySem.W.keepIn K (.ref f) = true := F.d.kp
theorem FunE.ok {P : Program} {w : World} {K : PySem.W.Frag} {mg : Str → Option Value} {base : Heap} {x qual : Str} {st : Stmt} {dvs : List V} {f : Addr} {fd : FuncData} {N ps : List Str} {k : Nat} {sp : Sp} (F : FunE K x qual st dvs f fd) (S : FnScope N ps (defScope st)) (len : ∀ vs H Q E, sp vs H Q E → vs.length = ps.length)
    (hbody : ∀ (cdv : Value) (A : Around) (outer : List Env) (s : Shared) (H : Hp) (vs : List V) (Q : VK) (E : XK), Room k (A.deeper (envOfC qual (defScope st) s.heap.objs.size f cdv)) → sp vs H Q E →
      ∃ t, PSs (cxOf CX0 P w K mg base N qual (defScope st) f cdv A outer s H E).nox (defBody st) t ∧ t { nx := fun _ H' => Q .non H', rt := Q } (start N vs) H) : FnOk P w K mg base CX0 (k + 1) f fd ps sp :=
  F.d.ok S len fun cdv A outer s H vs Q E hr hsp => by
    obtain ⟨t, h, q⟩ := hbody cdv A outer s H vs Q E hr hsp
    exact ⟨t, h.nox, q⟩
structure DefAtD (K : PySem.W.Frag) (mg : Str → Option Value) (name : Str) (st : Stmt) (ps : List Str) (dvs : List V) where
  f : Addr
  fd : FuncData
  F : FunE K name name st dvs f fd
  g : mg name = some (.ref f)
  b : Binds K fd ps []
  bD : ∃ ds, Vals dvs ds ∧ Binds K fd ps ds
theorem DefAt.b {K : PySem.W.Frag} {mg : Str → Option Value} {n : Str} {st : Stmt} {ps : List Str} (D : DefAt K mg n st ps) : Binds K D.fd ps [] := .all D.bd
theorem DefAt.bind1 {K : PySem.W.Frag} {mg : Str → Option Value} {n x : Str} {st : Stmt} (D : DefAt K mg n st [x]) (s : Shared) (v : Value) : BindsTo s D.fd ⟨[v], []⟩ [(x, v)] := .of_eq (D.bd [v] rfl)
theorem Room.units0 {k : Nat} {A : Around} (hr : Room k A) : A.units + 1 < cLine := hu_of hr
abbrev s_init : Stmt := match topS 6 with
  | .ClassDef _ _ _ b _ _ _ _ _ _ _ => b.getD 0 (.Pass ⟨0, 0, 0, 0⟩)
  | s => s
structure InitAt (K : PySem.W.Frag) where
  f : Addr
  fd : FuncData
  F : Fun K "__init__" "Refused.__init__" s_init f fd
  ti : PySem.W.typeIn K (.ref f) = some (.type "function")
  bd : ∀ us : List Value, us.length = 2 → bindArgs fd ⟨us, []⟩ = pure ((["self", "what"] : List Str).zip us)
theorem InitAt.b {K : PySem.W.Frag} (D : InitAt K) : Binds K D.fd ["self", "what"] [] := .all D.bd
structure Tx (K : PySem.W.Frag) (mg : Str → Option Value) where
  whole : DefAt K mg "whole" s_whole ["thing"]
  whole_within : DefAt K mg "whole_within" s_whole_within ["thing", "low", "high"]
  tuple_within : DefAt K mg "tuple_within" s_tuple_within ["thing", "low", "high"]
  first_rows : DefAtD K mg "first_rows" s_first_rows ["states", "start"] [.int 0]
  made_book : DefAt K mg "made_book" s_made_book ["thing"]
  check_form : DefAt K mg "check_form" s_check_form ["thing"]
  has_state_form : DefAt K mg "has_state_form" s_has_state_form ["thing", "many"]
  check_state : DefAt K mg "check_state" s_check_state ["book", "state"]
  check_message : DefAt K mg "check_message" s_check_message ["book", "state", "message"]
  stands : DefAt K mg "stands" s_stands ["book", "state", "message"]
  forks : DefAt K mg "forks" s_forks ["book"]
  leads : DefAt K mg "leads" s_leads ["book", "state", "message", "many"]
  fork_states : DefAt K mg "fork_states" s_fork_states ["book"]
  led_to : DefAt K mg "led_to" s_led_to ["book", "state", "message", "many"]
  reach : DefAt K mg "reach" s_reach ["book", "state", "many"]
  knots : DefAt K mg "knots" s_knots ["book"]
  ring_forks : DefAt K mg "ring_forks" s_ring_forks ["book"]
  cut_rows : DefAt K mg "cut_rows" s_cut_rows ["book"]
  rays : DefAt K mg "rays" s_rays ["book"]
  first_fork : DefAt K mg "first_fork" s_first_fork ["book"]
  ways_back : DefAt K mg "ways_back" s_ways_back ["book", "state"]
  ring_states : DefAt K mg "ring_states" s_ring_states ["book"]
  forks_on_rings : DefAt K mg "forks_on_rings" s_forks_on_rings ["book"]
  cut_ends : DefAt K mg "cut_ends" s_cut_ends ["book"]
  made_window : DefAt K mg "made_window" s_made_window ["thing"]
  check_number : DefAt K mg "check_number" s_check_number ["window"]
  ranks : DefAt K mg "ranks" s_ranks ["book", "window"]
  lasting : DefAt K mg "lasting" s_lasting ["book", "window"]
  special : DefAt K mg "special" s_special ["book", "window", "state"]
  special_for : DefAt K mg "special_for" s_special_for ["book", "window", "rank_of", "state"]
  leading_to : DefAt K mg "leading_to" s_leading_to ["book", "state", "window", "goals"]
  ranks_for : DefAt K mg "ranks_for" s_ranks_for ["book", "window"]
  lasting_for : DefAt K mg "lasting_for" s_lasting_for ["book", "window"]
  least_wires : DefAt K mg "least_wires" s_least_wires ["book", "window"]
  from_window : DefAt K mg "from_window" s_from_window ["book"]
  verdict : DefAt K mg "verdict" s_verdict ["book"]
  least_for : DefAt K mg "least_for" s_least_for ["book", "window"]
  least_free : DefAt K mg "least_free" s_least_free ["book"]
  ray_counts : DefAt K mg "ray_counts" s_ray_counts ["book"]
  law_pool : DefAt K mg "_law_pool" s_law_pool ["script"]
  law_draw : DefAt K mg "_law_draw" s_law_draw ["pool", "many"]
  law_pick : DefAt K mg "_law_pick" s_law_pick ["pool", "things"]
  law_book_meeting : DefAt K mg "_law_book_meeting" s_law_book_meeting ["moves"]
  law_book_messages : DefAt K mg "_law_book_messages" s_law_book_messages ["pool", "count"]
  law_book_drawn : DefAt K mg "_law_book_drawn" s_law_book_drawn ["pool", "states", "most"]
  law_win_heard : DefAt K mg "_law_win_heard" s_law_win_heard ["call"]
  law_win_no_books : DefAt K mg "_law_win_no_books" s_law_win_no_books ["pool", "book"]
  law_win_no_windows : DefAt K mg "_law_win_no_windows" s_law_win_no_windows []
  law_alone : DefAt K mg "_law_alone" s_law_alone ["way", "book"]
  law_more : DefAt K mg "_law_more" s_law_more ["way", "book", "window"]
  law_bent_states : DefAt K mg "_law_bent_states" s_law_bent_states ["states"]
  law_books_refused : DefAt K mg "_law_books_refused" s_law_books_refused ["pool", "book"]
  law_more_refused : DefAt K mg "_law_more_refused" s_law_more_refused ["pool", "book"]
  law : DefAt K mg "law" s_law ["script"]
  init : InitAt K
  x_BadBook : ExcC K mg "BadBook" init.f
  x_Stray : ExcC K mg "Stray" init.f
  x_BadState : ExcC K mg "BadState" init.f
  x_BadMany : ExcC K mg "BadMany" init.f
  x_TooMany : ExcC K mg "TooMany" init.f
  x_NoMessage : ExcC K mg "NoMessage" init.f
  x_BadWindow : ExcC K mg "BadWindow" init.f
  x_NoNumber : ExcC K mg "NoNumber" init.f
  x_HasLasting : ExcC K mg "HasLasting" init.f
  s_BadBook_BadBook : PySem.W.subIn K (.ref x_BadBook.C) (.ref x_BadBook.C) = some true
  s_Stray_BadBook : PySem.W.subIn K (.ref x_Stray.C) (.ref x_BadBook.C) = some false
  s_Stray_Stray : PySem.W.subIn K (.ref x_Stray.C) (.ref x_Stray.C) = some true
  s_BadState_BadBook : PySem.W.subIn K (.ref x_BadState.C) (.ref x_BadBook.C) = some false
  s_BadState_Stray : PySem.W.subIn K (.ref x_BadState.C) (.ref x_Stray.C) = some false
  s_BadState_BadState : PySem.W.subIn K (.ref x_BadState.C) (.ref x_BadState.C) = some true
  s_NoMessage_BadBook : PySem.W.subIn K (.ref x_NoMessage.C) (.ref x_BadBook.C) = some false
  s_NoMessage_Stray : PySem.W.subIn K (.ref x_NoMessage.C) (.ref x_Stray.C) = some false
  s_NoMessage_BadState : PySem.W.subIn K (.ref x_NoMessage.C) (.ref x_BadState.C) = some false
  s_NoMessage_NoMessage : PySem.W.subIn K (.ref x_NoMessage.C) (.ref x_NoMessage.C) = some true
  s_BadMany_BadBook : PySem.W.subIn K (.ref x_BadMany.C) (.ref x_BadBook.C) = some false
  s_BadMany_Stray : PySem.W.subIn K (.ref x_BadMany.C) (.ref x_Stray.C) = some false
  s_BadMany_BadState : PySem.W.subIn K (.ref x_BadMany.C) (.ref x_BadState.C) = some false
  s_BadMany_NoMessage : PySem.W.subIn K (.ref x_BadMany.C) (.ref x_NoMessage.C) = some false
  s_BadMany_BadMany : PySem.W.subIn K (.ref x_BadMany.C) (.ref x_BadMany.C) = some true
  s_BadWindow_BadBook : PySem.W.subIn K (.ref x_BadWindow.C) (.ref x_BadBook.C) = some false
  s_BadWindow_Stray : PySem.W.subIn K (.ref x_BadWindow.C) (.ref x_Stray.C) = some false
  s_BadWindow_BadState : PySem.W.subIn K (.ref x_BadWindow.C) (.ref x_BadState.C) = some false
  s_BadWindow_NoMessage : PySem.W.subIn K (.ref x_BadWindow.C) (.ref x_NoMessage.C) = some false
  s_BadWindow_BadMany : PySem.W.subIn K (.ref x_BadWindow.C) (.ref x_BadMany.C) = some false
  s_BadWindow_BadWindow : PySem.W.subIn K (.ref x_BadWindow.C) (.ref x_BadWindow.C) = some true
  s_NoNumber_BadBook : PySem.W.subIn K (.ref x_NoNumber.C) (.ref x_BadBook.C) = some false
  s_NoNumber_Stray : PySem.W.subIn K (.ref x_NoNumber.C) (.ref x_Stray.C) = some false
  s_NoNumber_BadState : PySem.W.subIn K (.ref x_NoNumber.C) (.ref x_BadState.C) = some false
  s_NoNumber_NoMessage : PySem.W.subIn K (.ref x_NoNumber.C) (.ref x_NoMessage.C) = some false
  s_NoNumber_BadMany : PySem.W.subIn K (.ref x_NoNumber.C) (.ref x_BadMany.C) = some false
  s_NoNumber_BadWindow : PySem.W.subIn K (.ref x_NoNumber.C) (.ref x_BadWindow.C) = some false
  s_NoNumber_NoNumber : PySem.W.subIn K (.ref x_NoNumber.C) (.ref x_NoNumber.C) = some true
  s_TooMany_BadBook : PySem.W.subIn K (.ref x_TooMany.C) (.ref x_BadBook.C) = some false
  s_TooMany_Stray : PySem.W.subIn K (.ref x_TooMany.C) (.ref x_Stray.C) = some false
  s_TooMany_BadState : PySem.W.subIn K (.ref x_TooMany.C) (.ref x_BadState.C) = some false
  s_TooMany_NoMessage : PySem.W.subIn K (.ref x_TooMany.C) (.ref x_NoMessage.C) = some false
  s_TooMany_BadMany : PySem.W.subIn K (.ref x_TooMany.C) (.ref x_BadMany.C) = some false
  s_TooMany_BadWindow : PySem.W.subIn K (.ref x_TooMany.C) (.ref x_BadWindow.C) = some false
  s_TooMany_NoNumber : PySem.W.subIn K (.ref x_TooMany.C) (.ref x_NoNumber.C) = some false
  s_TooMany_HasLasting : PySem.W.subIn K (.ref x_TooMany.C) (.ref x_HasLasting.C) = some false
  s_TooMany_TooMany : PySem.W.subIn K (.ref x_TooMany.C) (.ref x_TooMany.C) = some true
  n_isinstance : mg "isinstance" = none
  n_int : mg "int" = none
  n_bool : mg "bool" = none
  n_tuple : mg "tuple" = none
  n_len : mg "len" = none
  n_range : mg "range" = none
  n_dict : mg "dict" = none
  n_min : mg "min" = none
  n_sorted : mg "sorted" = none
  n_set : mg "set" = none
  n_any : mg "any" = none
  n_list : mg "list" = none
  n_sum : mg "sum" = none
  n_max : mg "max" = none
  n_repr : mg "repr" = none
  c_MOST_STATES : ∃ t, mg "MOST_STATES" = some (.int 8 t)
  c_MOST_MESSAGES : ∃ t, mg "MOST_MESSAGES" = some (.int 5 t)
  c_GREATEST_MESSAGE : ∃ t, mg "GREATEST_MESSAGE" = some (.int 99 t)
  c_MOST_CUT_ROWS : ∃ t, mg "MOST_CUT_ROWS" = some (.int 120 t)
  c_LAST_WINDOW : ∃ t, mg "LAST_WINDOW" = some (.int 9 t)
end Nv
set_option Elab.async false
set_option linter.all false
set_option maxRecDepth 100000
namespace Nv
open PySem PySem.Spec PyProof.Rows L2
/-! ### what stays -/
/-- all that was tracked is as it was, but for the addresses of L -/
def Ext (L : List Addr) (H H' : Hp) : Prop := ∀ b o, b ∉ L → H b = some o → H' b = some o
theorem Ext.refl {L : List Addr} {H : Hp} : Ext L H H := fun _ _ _ e => e
theorem Ext.trans {L : List Addr} {H H1 H2 : Hp} (a : Ext L H H1) (b : Ext L H1 H2) : Ext L H H2 := fun c o n e => b c o n (a c o n e)
theorem Ext.mono {L M : List Addr} {H H' : Hp} (a : Ext L H H') (s : ∀ x ∈ L, x ∈ M) : Ext M H H' := fun c o n e => a c o (fun z => n (s c z)) e
theorem Ext.weak {L : List Addr} {H H' : Hp} (a : Ext [] H H') : Ext L H H' := a.mono fun x z => nomatch z
theorem Ext.same {L : List Addr} {H H' : Hp} (a : Same H H') : Ext L H H' := fun c o _ e => a c o e
theorem Ext.toSame {H H' : Hp} (a : Ext [] H H') : Same H H' := fun c o e => a c o (by simp) e
theorem Ext.new {L : List Addr} {H : Hp} {p : Addr} {o : HO} (h : H p = none) : Ext L H (upd H p o) := fun b u _ e => by
  rw [upd_ne (ne_of_none e h)]
  exact e
theorem Ext.wr {L : List Addr} {H : Hp} {p : Addr} {o : HO} (h : p ∈ L) : Ext L H (upd H p o) := fun b u n e => by
  rw [upd_ne (fun z => n (by rw [z]; exact h))]
  exact e
theorem Ext.at {L : List Addr} {H H' : Hp} {p : Addr} {o : HO} (a : Ext L H H') (h : H p = some o) (n : p ∉ L) : H' p = some o := a p o n h
theorem Ext.free {H H' : Hp} {p : Addr} (a : Ext [] H H') (h : H' p = none) : H p = none := a.toSame.free h
/-- drop an address that was free -/
theorem Ext.drop {L : List Addr} {H H' : Hp} {p : Addr} (a : Ext (p :: L) H H') (h : H p = none) : Ext L H H' := fun b o n e => a b o (fun z => by
  rcases List.mem_cons.mp z with z | z
  · exact ne_of_none e h z
  · exact n z) e
theorem Ext.drop2 {L : List Addr} {H H1 H' : Hp} {p : Addr} (s : Ext [] H H1) (a : Ext (p :: L) H1 H') (h : H p = none) : Ext L H H' := Ext.drop ((s.weak).trans a) h
/-- at these addresses stand no tuples -/
def Lsts (L : List Addr) (H : Hp) : Prop := ∀ l ∈ L, ∃ o, H l = some o ∧ (∀ xs, o ≠ .tup xs) ∧ ∀ ob u, o ≠ .frz ob u
theorem Lsts.nil {H : Hp} : Lsts [] H := fun _ z => nomatch z
theorem Lsts.not {L : List Addr} {H : Hp} (l : Lsts L H) {a : Addr} {xs : List V} (h : H a = some (.tup xs)) : a ∉ L := fun z => by
  obtain ⟨o, e, n, _⟩ := l a z
  rw [h] at e
  exact n xs (Option.some.inj e).symm
theorem Lsts.notF {L : List Addr} {H : Hp} (l : Lsts L H) {a : Addr} {ob : Obj} {u : HO} (h : H a = some (.frz ob u)) : a ∉ L := fun z => by
  obtain ⟨o, e, _, n⟩ := l a z
  rw [h] at e
  exact n ob u (Option.some.inj e).symm
theorem Ext.tup {L : List Addr} {H H' : Hp} {K : PySem.W.Frag} {a : Addr} {xs : List V} (e : Ext L H H') (l : Lsts L H) (h : SqT K H a xs) : SqT K H' a xs := by
  rcases h with (h | ⟨o, h⟩) | h
  · exact .inl (.inl (e _ _ (l.not h) h))
  · exact .inl (.inr ⟨o, e _ _ (l.notF h) h⟩)
  · exact .inr h
theorem Ext.tz {L : List Addr} {H H' : Hp} {a : Addr} {xs : List V} (e : Ext L H H') (l : Lsts L H) (h : TupZ H a xs) : TupZ H' a xs := by
  obtain ⟨o, h, d⟩ := h
  exact ⟨o, e _ _ (l.notF h) h, d⟩
theorem Ext.frz {L : List Addr} {H H' : Hp} {K : PySem.W.Frag} {a : Addr} {xs : List V} (e : Ext L H H') (n : a ∉ L) (h : SqL K H a xs) : SqL K H' a xs := by
  rcases h with (h | ⟨o, h⟩) | h
  · exact .inl (.inl (e _ _ n h))
  · exact .inl (.inr ⟨o, e _ _ n h⟩)
  · exact .inr h
theorem two_lsts {p l : Addr} {H : Hp} {xs ys : List V} (h1 : H p = some (.lst xs)) (h2 : H l = some (.lst ys)) : Lsts [p, l] H := fun a z => by
  rcases List.mem_cons.mp z with z | z
  · exact ⟨.lst xs, by rw [z]; exact h1, fun _ q => (nomatch q), fun _ _ q => (nomatch q)⟩
  · exact ⟨.lst ys, by rw [List.mem_singleton.mp z]; exact h2, fun _ q => (nomatch q), fun _ _ q => (nomatch q)⟩
theorem one_lst {p : Addr} {H : Hp} {xs : List V} (h1 : H p = some (.lst xs)) : Lsts [p] H := fun a z => ⟨.lst xs, by rw [List.mem_singleton.mp z]; exact h1, fun _ q => (nomatch q), fun _ _ q => (nomatch q)⟩
theorem one_dk {p : Addr} {H : Hp} {xs : List (Key × V)} (h1 : H p = some (.dK xs)) : Lsts [p] H := fun a z => ⟨.dK xs, by rw [List.mem_singleton.mp z]; exact h1, fun _ q => (nomatch q), fun _ _ q => (nomatch q)⟩
theorem one_tbl {p : Addr} {H : Hp} {xs : Array Value} (h1 : H p = some (.tbl xs)) : Lsts [p] H := fun a z => ⟨.tbl xs, by rw [List.mem_singleton.mp z]; exact h1, fun _ q => (nomatch q), fun _ _ q => (nomatch q)⟩
/-! ### a word between an expression and what follows -/
def tMid (t : TE) : TE := fun σ H Q => ∃ M : VK, t σ H M ∧ ∀ v H', M v H' → Q v H'
theorem pe_mid {X : Cx} {e : Expr} {t : TE} (h : PE X e t) : PE X e (tMid t) := ⟨fun pins s σ H Q I ⟨M, h1, h2⟩ => thn (h.run pins s σ H M I h1) fun u s' ⟨v, H', I', r, m⟩ => ⟨v, H', I', r, h2 v H' m⟩⟩
def tMidT (t : TT) : TT := fun σ H Q => ∃ M : Bool → Hp → Prop, t σ H M ∧ ∀ v H', M v H' → Q v H'
theorem pt_mid {X : Cx} {e : Expr} {t : TT} (h : PT X e t) : PT X e (tMidT t) := ⟨fun pins s σ H Q I ⟨M, h1, h2⟩ => thn (h.run pins s σ H M I h1) fun u s' ⟨H', I', m⟩ => ⟨H', I', h2 _ H' m⟩⟩
/-! ### data: ints -/
theorem ints_lay : ∀ ns : List Int, PyData.canLayAll0 (ns.map PyData.int) = true
  | [] => rfl
  | n :: r => by simp [PyData.canLayAll0, PyData.canLay0, ints_lay r]
theorem ints_depth : ∀ ns : List Int, PyData.depthAll (ns.map PyData.int) = 0
  | [] => rfl
  | n :: r => by simp [PyData.depthAll, PyData.depth, ints_depth r]
theorem ints_show : ∀ ns : List Int, (∀ n ∈ ns, 0 ≤ n ∧ n < 1000) → PyData.showableAll (ns.map PyData.int) = true
  | [], _ => rfl
  | n :: r, h => by
    have h1 := h n (by simp)
    have h2 : n.natAbs.log2 < 1920 := Nat.lt_of_le_of_lt (Nat.log2_le_self _) (by omega)
    simp [PyData.showableAll, PyData.showable, ints_show r fun m hm => h m (by simp [hm]), h2]
theorem ints_nodict : ∀ ns : List Int, PyData.hasDictAll (ns.map PyData.int) = false
  | [] => rfl
  | n :: r => by simp [PyData.hasDictAll, PyData.hasDict, ints_nodict r]
theorem ints_eqv : ∀ ns ms : List Int, PyData.eqvAll (ns.map PyData.int) (ms.map PyData.int) = decide (ns = ms)
  | [], [] => by simp [PyData.eqvAll]
  | [], m :: q => by simp [PyData.eqvAll]
  | n :: r, [] => by simp [PyData.eqvAll]
  | n :: r, m :: q => by
    simp only [List.map_cons, PyData.eqvAll, PyData.eqv, ints_eqv r q, List.cons.injEq]
    by_cases h : n = m <;> simp [h]
theorem dp_ints {K : PySem.W.Frag} {H : Hp} : ∀ (ns : List Int), DpAll K H (ns.map V.int) (ns.map PyData.int)
  | [] => .nil
  | n :: r => .cons (.int n) (dp_ints r)
theorem shaped_ints (ns : List Int) : SeqAt.shaped (.list (ns.map PyData.int)) = true := by simp [SeqAt.shaped, PyData.canLay0, ints_lay, PyData.depth, ints_depth]
theorem shaped_intsT (ns : List Int) : SeqAt.shaped (.tuple (ns.map PyData.int)) = true := by simp [SeqAt.shaped, PyData.canLay0, ints_lay, PyData.depth, ints_depth]
theorem eqv_nil {ns : List Int} : PyData.eqv (.list (ns.map PyData.int)) (.list []) = decide (ns = []) := by
  have h := ints_eqv ns []
  simpa [PyData.eqv] using h
/-! ### books -/
abbrev State := List (Nat × Nat)
abbrev Book := List State
def MvV (K : PySem.W.Frag) (H : Hp) (p : Addr) (m : Nat × Nat) : Prop := SqT K H p [.int m.1, .int m.2]
def StV (K : PySem.W.Frag) (H : Hp) (v : V) (s : State) : Prop := ∃ (a : Addr) (ps : List Addr), v = .ref a ∧ TupZ H a (ps.map V.ref) ∧ Paired (MvV K H) ps s
def BkV (K : PySem.W.Frag) (H : Hp) (v : V) (b : Book) : Prop := ∃ (a : Addr) (vs : List V), v = .ref a ∧ SqT K H a vs ∧ Paired (StV K H) vs b
theorem Paired.imp {α β : Type} {F G : α → β → Prop} : ∀ {l₁ : List α} {l₂ : List β}, Paired F l₁ l₂ → (∀ a b, F a b → G a b) → Paired G l₁ l₂
  | _, _, .nil, _ => .nil
  | _, _, .cons r t, f => .cons (f _ _ r) (Paired.imp t f)
theorem Paired.get {α β : Type} {F : α → β → Prop} : ∀ {l₁ : List α} {l₂ : List β} {i : Nat} {b : β}, Paired F l₁ l₂ → l₂[i]? = some b → ∃ a, l₁[i]? = some a ∧ F a b
  | _, _, _, _, .nil, e => by simp at e
  | _, _, 0, _, .cons r _, e => by cases e; exact ⟨_, rfl, r⟩
  | _, _, i + 1, _, .cons _ t, e => by
    obtain ⟨a, e1, e2⟩ := Paired.get (i := i) t (by simpa using e)
    exact ⟨a, by simpa using e1, e2⟩
theorem Paired.get' {α β : Type} {F : α → β → Prop} : ∀ {l₁ : List α} {l₂ : List β} {i : Nat} {a : α}, Paired F l₁ l₂ → l₁[i]? = some a → ∃ b, l₂[i]? = some b ∧ F a b
  | _, _, _, _, .nil, e => by simp at e
  | _, _, 0, _, .cons r _, e => by cases e; exact ⟨_, rfl, r⟩
  | _, _, i + 1, _, .cons _ t, e => by
    obtain ⟨a, e1, e2⟩ := Paired.get' (i := i) t (by simpa using e)
    exact ⟨a, by simpa using e1, e2⟩
theorem Paired.len {α β : Type} {F : α → β → Prop} : ∀ {l₁ : List α} {l₂ : List β}, Paired F l₁ l₂ → l₁.length = l₂.length
  | _, _, .nil => rfl
  | _, _, .cons _ t => by rw [List.length_cons, List.length_cons, Paired.len t]
theorem Paired.snoc {α β : Type} {F : α → β → Prop} {a : α} {b : β} (h : F a b) : ∀ {l₁ : List α} {l₂ : List β}, Paired F l₁ l₂ → Paired F (l₁ ++ [a]) (l₂ ++ [b])
  | _, _, .nil => .cons h .nil
  | _, _, .cons r t => .cons r (Paired.snoc h t)
theorem StV.ext {L : List Addr} {H H' : Hp} {K : PySem.W.Frag} {v : V} {s : State} (e : Ext L H H') (l : Lsts L H) (h : StV K H v s) : StV K H' v s := by
  obtain ⟨a, ps, rfl, h1, h2⟩ := h
  exact ⟨a, ps, rfl, e.tz l h1, Paired.imp h2 fun _ _ q => e.tup l q⟩
theorem BkV.ext {L : List Addr} {H H' : Hp} {K : PySem.W.Frag} {v : V} {b : Book} (e : Ext L H H') (l : Lsts L H) (h : BkV K H v b) : BkV K H' v b := by
  obtain ⟨a, vs, rfl, h1, h2⟩ := h
  exact ⟨a, vs, rfl, e.tup l h1, Paired.imp h2 fun _ _ q => q.ext e l⟩
theorem BkV.ext0 {H H' : Hp} {K : PySem.W.Frag} {v : V} {b : Book} (h : BkV K H v b) (e : Ext [] H H') : BkV K H' v b := h.ext e Lsts.nil
theorem StV.ext0 {H H' : Hp} {K : PySem.W.Frag} {v : V} {s : State} (h : StV K H v s) (e : Ext [] H H') : StV K H' v s := h.ext e Lsts.nil
/-- values -/
theorem atN {xs : List V} {i : Nat} {v : V} (h : xs[i]? = some v) : atI xs (i : Int) = some v := atI_nat h
abbrev nV (n : Nat) : V := .int (n : Int)
theorem map_at {α : Type} {f : α → V} {xs : List α} {i : Nat} {y : V} (h : (xs.map f)[i]? = some y) : ∃ x, xs[i]? = some x ∧ y = f x := by
  rw [List.getElem?_map] at h
  cases e : xs[i]? with
  | none => rw [e] at h; cases h
  | some x => rw [e] at h; exact ⟨x, rfl, (Option.some.inj h).symm⟩
theorem at_map {α : Type} {f : α → V} {xs : List α} {i : Nat} {x : α} (h : xs[i]? = some x) : (xs.map f)[i]? = some (f x) := by rw [List.getElem?_map, h]; rfl
theorem dec_int {a b : Int} : decide (V.int a = V.int b) = decide (a = b) := by
  by_cases h : a = b
  · subst h; simp
  · rw [decide_eq_false h, decide_eq_false fun e => h (V.int.inj e)]
theorem ifB {b : Bool} {A B : Prop} (h1 : b = true → A) (h2 : b = false → B) : if b = true then A else B := by
  cases b
  · exact iteF (h2 rfl)
  · exact iteT (h1 rfl)
theorem flat_nV (F : List Nat) : (F.map nV).all flatV = true := by
  rw [List.all_eq_true]
  intro v hv
  obtain ⟨n, _, rfl⟩ := List.mem_map.mp hv
  rfl
theorem eqV_nV (a b : Nat) : eqV (nV a) (nV b) = decide (a = b) := by
  unfold nV eqV
  by_cases h : a = b
  · subst h; simp
  · have h2 : ¬ ((a : Int) = (b : Int)) := fun e => h (by omega)
    simp [h, h2]
theorem inV_nV (t : Nat) (F : List Nat) : inV (nV t) (F.map nV) = decide (t ∈ F) := by
  unfold inV
  rw [List.any_map]
  by_cases h : t ∈ F
  · rw [decide_eq_true h, List.any_eq_true]
    exact ⟨t, h, by simp [eqV_nV]⟩
  · rw [decide_eq_false h, List.any_eq_false]
    intro x hx
    simp only [Function.comp, eqV_nV, decide_eq_true_eq]
    exact fun e => h (e ▸ hx)
/-- lists of moves that are not closed yet -/
def LsV (K : PySem.W.Frag) (H : Hp) (v : V) (s : State) : Prop := ∃ (a : Addr) (ps : List Addr), v = .ref a ∧ H a = some (.lst (ps.map V.ref)) ∧ Paired (MvV K H) ps s
def LbV (K : PySem.W.Frag) (H : Hp) (v : V) (b : Book) : Prop := ∃ (a : Addr) (vs : List V), v = .ref a ∧ H a = some (.lst vs) ∧ Paired (LsV K H) vs b
theorem LsV.ext0 {H H' : Hp} {K : PySem.W.Frag} {v : V} {s : State} (h : LsV K H v s) (e : Ext [] H H') : LsV K H' v s := by
  obtain ⟨a, ps, rfl, h1, h2⟩ := h
  exact ⟨a, ps, rfl, e.at h1 (by simp), Paired.imp h2 fun _ _ q => e.tup Lsts.nil q⟩
theorem LbV.ext0 {H H' : Hp} {K : PySem.W.Frag} {v : V} {b : Book} (h : LbV K H v b) (e : Ext [] H H') : LbV K H' v b := by
  obtain ⟨a, ps, rfl, h1, h2⟩ := h
  exact ⟨a, ps, rfl, e.at h1 (by simp), Paired.imp h2 fun _ _ q => q.ext0 e⟩
theorem MvV.ext0 {H H' : Hp} {K : PySem.W.Frag} {p : Addr} {m : Nat × Nat} (h : MvV K H p m) (e : Ext [] H H') : MvV K H' p m := e.tup Lsts.nil h
/-- a list that was made behind H may be written -/
theorem Ext.put {H H' : Hp} {p : Addr} {o : HO} (e : Ext [] H H') (h : H p = none) : Ext [] H (upd H' p o) := Ext.drop (e.weak.trans (.wr (by simp))) h
theorem Ext.put' {L : List Addr} {H H' : Hp} {p : Addr} {o : HO} (e : Ext L H H') (h : H p = none) : Ext L H (upd H' p o) := Ext.drop ((e.mono fun x z => List.mem_cons_of_mem _ z).trans (.wr (by simp))) h
theorem Ext.put2 {L : List Addr} {H H' : Hp} {p : Addr} {o : HO} (e : Ext L H H') (h : H' p = none) : Ext L H (upd H' p o) := e.trans (.new h)
theorem StV.put {H : Hp} {K : PySem.W.Frag} {v : V} {s : State} {p : Addr} {xs ys : List V} (h : StV K H v s) (hp : H p = some (.lst xs)) : StV K (upd H p (.lst ys)) v s := h.ext (L := [p]) (.wr (by simp)) (one_lst hp)
theorem MvV.put {H : Hp} {K : PySem.W.Frag} {q : Addr} {m : Nat × Nat} {p : Addr} {xs ys : List V} (h : MvV K H q m) (hp : H p = some (.lst xs)) : MvV K (upd H p (.lst ys)) q m := Ext.tup (L := [p]) (.wr (by simp)) (one_lst hp) h
theorem yes {σ : L2.St} {H : Hp} {A B : Hp → Prop} (h : A H) : tYes σ H (fun b H3 => if b = true then A H3 else B H3) := by
  show if true = true then A H else B H
  exact iteT h
theorem Ext.free2 {L : List Addr} {H H' : Hp} {x : Addr} (e : Ext L H H') (h : H' x = none) (n : x ∉ L) : H x = none := by
  cases q : H x with
  | none => rfl
  | some o =>
    rw [e x o n q] at h
    cases h
theorem eraseIdx_nV {α β : Type} (f : α → β) : ∀ (L : List α) (k : Nat), (L.map f).eraseIdx k = (L.eraseIdx k).map f
  | [], _ => rfl
  | _ :: _, 0 => rfl
  | a :: r, k + 1 => by simp [eraseIdx_nV f r k]
theorem off2 {p l x : Addr} (a : x ≠ p) (b : x ≠ l) : x ∉ [p, l] := fun z => by
  rcases List.mem_cons.mp z with z | z
  · exact a z
  · exact b (List.mem_singleton.mp z)
/-- such a list, not at one of these addresses -/
def LsN (K : PySem.W.Frag) (H : Hp) (X : List Addr) (v : V) (s : State) : Prop := ∃ (a : Addr) (ps : List Addr), v = .ref a ∧ a ∉ X ∧ H a = some (.lst (ps.map V.ref)) ∧ Paired (MvV K H) ps s
theorem LsN.ls {K : PySem.W.Frag} {H : Hp} {X : List Addr} {v : V} {s : State} (h : LsN K H X v s) : LsV K H v s := by
  obtain ⟨a, ps, e, _, h1, h2⟩ := h
  exact ⟨a, ps, e, h1, h2⟩
theorem LsN.ext {K : PySem.W.Frag} {H H' : Hp} {X Y : List Addr} {v : V} {s : State} (h : LsN K H X v s) (e : Ext Y H H') (yx : ∀ y ∈ Y, y ∈ X) (l : Lsts Y H) : LsN K H' X v s := by
  obtain ⟨a, ps, ea, n, h1, h2⟩ := h
  exact ⟨a, ps, ea, n, e _ _ (fun z => n (yx a z)) h1, Paired.imp h2 fun _ _ q => e.tup l q⟩
def mvD (q : Nat × Nat) : PyData := .tuple [.int (q.1 : Int), .int (q.2 : Int)]
theorem dp_mvs {K : PySem.W.Frag} {H : Hp} : ∀ {ps : List Addr} {s : State}, Paired (MvV K H) ps s → DpAll K H (ps.map V.ref) (s.map mvD)
  | _, _, .nil => .nil
  | _, _, .cons r t => .cons (.tup r (.cons (.int _) (.cons (.int _) .nil))) (dp_mvs t)
theorem mvs_lay : ∀ s : State, PyData.canLayAll0 (s.map mvD) = true
  | [] => rfl
  | q :: r => by simp [PyData.canLayAll0, PyData.canLay0, mvs_lay r, mvD]
theorem mvs_depth : ∀ s : State, PyData.depthAll (s.map mvD) ≤ 1
  | [] => by simp [PyData.depthAll]
  | q :: r => by
    have := mvs_depth r
    simp [PyData.depthAll, PyData.depth, mvD]
    omega
theorem shaped_mvs (s : State) : SeqAt.shaped (.list (s.map mvD)) = true := by
  have := mvs_depth s
  simp [SeqAt.shaped, PyData.canLay0, mvs_lay, PyData.depth]
  omega
theorem eqv_mvs_nil (s : State) : PyData.eqv (.list (s.map mvD)) (.list []) = decide (s = []) := by
  cases s <;> simp [PyData.eqv, PyData.eqvAll]
theorem ixNat {k n : Nat} (h : k < n) : ixN n (k : Int) = some k := by
  unfold ixN
  rw [if_pos (by omega), if_pos (by omega)]
  simp
theorem Paired.set {α β : Type} {F : α → β → Prop} {a : α} {b : β} (h : F a b) : ∀ {l₁ : List α} {l₂ : List β} (k : Nat), Paired F l₁ l₂ → Paired F (l₁.set k a) (l₂.set k b)
  | _, _, _, .nil => .nil
  | _, _, 0, .cons _ t => .cons h t
  | _, _, k + 1, .cons r t => .cons r (Paired.set h k t)
/-- the keys of a dict -/
abbrev kN (n : Nat) : Key := Sum.inl (n : Int)
theorem valV_key {kvs : List (Key × V)} {F : List Nat} (h : kvs.map (·.1) = F.map kN) (n : Nat) : (valV kvs (kN n)).isSome = decide (n ∈ F) := by
  rw [← valV_any]
  have e : (kvs.any fun kv => decide (kv.1 = kN n)) = ((kvs.map (·.1)).any fun k => decide (k = kN n)) := by rw [List.any_map]; rfl
  rw [e, h, List.any_map]
  by_cases m : n ∈ F
  · rw [decide_eq_true m, List.any_eq_true]
    exact ⟨n, m, by simp⟩
  · rw [decide_eq_false m, List.any_eq_false]
    intro x hx
    simp only [Function.comp, decide_eq_true_eq]
    intro e
    have e2 : (x : Int) = (n : Int) := Sum.inl.inj e
    exact m (by rw [show n = x by omega]; exact hx)
theorem valV_mem {kvs : List (Key × V)} {k : Key} {v : V} (h : valV kvs k = some v) : (k, v) ∈ kvs := by
  unfold valV at h
  cases e : kvs.find? (fun kv => decide (kv.1 = k)) with
  | none => rw [e] at h; cases h
  | some p =>
    rw [e] at h
    cases h
    have h1 := List.mem_of_find?_eq_some e
    have h2 := List.find?_some e
    simp at h2
    rw [← h2]
    exact h1
/-! ### books whose states are any tuples -/
def StW (K : PySem.W.Frag) (H : Hp) (v : V) (s : State) : Prop := ∃ (a : Addr) (ps : List Addr), v = .ref a ∧ SqT K H a (ps.map V.ref) ∧ Paired (MvV K H) ps s
def BkW (K : PySem.W.Frag) (H : Hp) (v : V) (b : Book) : Prop := ∃ (a : Addr) (vs : List V), v = .ref a ∧ SqT K H a vs ∧ Paired (StW K H) vs b
theorem BkV.wk {K : PySem.W.Frag} {H : Hp} {v : V} {b : Book} (h : BkV K H v b) : BkW K H v b := by
  obtain ⟨a, vs, rfl, h1, h2⟩ := h
  exact ⟨a, vs, rfl, h1, Paired.imp h2 fun _ _ z => by obtain ⟨c, ps, rfl, h3, h4⟩ := z; exact ⟨c, ps, rfl, h3.sq, h4⟩⟩
theorem BkW.ext {L : List Addr} {H H' : Hp} {K : PySem.W.Frag} {v : V} {b : Book} (e : Ext L H H') (l : Lsts L H) (h : BkW K H v b) : BkW K H' v b := by
  obtain ⟨a, vs, rfl, h1, h2⟩ := h
  exact ⟨a, vs, rfl, e.tup l h1, Paired.imp h2 fun _ _ z => by obtain ⟨c, ps, rfl, h3, h4⟩ := z; exact ⟨c, ps, rfl, e.tup l h3, Paired.imp h4 fun _ _ q => e.tup l q⟩⟩
theorem BkW.ext0 {H H' : Hp} {K : PySem.W.Frag} {v : V} {b : Book} (h : BkW K H v b) (e : Ext [] H H') : BkW K H' v b := h.ext e Lsts.nil
end Nv
set_option linter.all false
namespace Nv
/-! ### books: the mathematics -/
def mvs (b : Book) (s : Nat) : State := b.getD s []
inductive Rch (b : Book) : Nat → Prop
  | zero : Rch b 0
  | step {s : Nat} {p : Nat × Nat} : Rch b s → p ∈ mvs b s → Rch b p.2
/-- a state's form, of a book with n states -/
structure StOk (n : Nat) (s : State) : Prop where
  few : s.length ≤ 5
  rise : (s.map (·.1)).Pairwise (· < ·)
  msg : ∀ p ∈ s, p.1 ≤ 99
  to : ∀ p ∈ s, p.2 < n
/-- the form of a book -/
structure FormB (b : Book) : Prop where
  one : 1 ≤ b.length
  eight : b.length ≤ 8
  st : ∀ s ∈ b, StOk b.length s
structure OkB (b : Book) : Prop extends FormB b where
  reach : ∀ s, s < b.length → Rch b s
theorem mvs_of {b : Book} {s : Nat} {x : State} (h : b[s]? = some x) : mvs b s = x := by
  unfold mvs
  rw [List.getD_eq_getElem?_getD, h]
  rfl
theorem mvs_lt {b : Book} {s : Nat} (h : s < b.length) : b[s]? = some (mvs b s) := by
  rw [mvs_of (List.getElem?_eq_getElem h)]
  exact List.getElem?_eq_getElem h
theorem mvs_mem {b : Book} {s : Nat} (h : s < b.length) : mvs b s ∈ b := List.mem_of_getElem? (mvs_lt h)
theorem mvs_out {b : Book} {s : Nat} (h : b.length ≤ s) : mvs b s = [] := by
  unfold mvs
  rw [List.getD_eq_getElem?_getD, List.getElem?_eq_none h]
  rfl
theorem FormB.ok {b : Book} (h : FormB b) {s : Nat} (hs : s < b.length) : StOk b.length (mvs b s) := h.st _ (mvs_mem hs)
theorem FormB.to {b : Book} (h : FormB b) {s : Nat} {p : Nat × Nat} (hp : p ∈ mvs b s) : p.2 < b.length := by
  by_cases hs : s < b.length
  · exact (h.ok hs).to p hp
  · rw [mvs_out (by omega)] at hp
    cases hp
/-- what meeting finds: F the states in their order -/
structure Met (b : Book) (F : List Nat) : Prop where
  nd : F.Nodup
  zero : F[0]? = some 0
  lt : ∀ s ∈ F, s < b.length
  cl : ∀ s ∈ F, ∀ p ∈ mvs b s, p.2 ∈ F
  from_ : ∀ j s, F[j]? = some s → j ≠ 0 → ∃ i s', i < j ∧ F[i]? = some s' ∧ ∃ p ∈ mvs b s', p.2 = s
def rename (b : Book) (F : List Nat) : Book := F.map fun s => (mvs b s).map fun p => (p.1, F.idxOf p.2)
theorem rename_len {b : Book} {F : List Nat} : (rename b F).length = F.length := by simp [rename]
theorem rename_at {b : Book} {F : List Nat} {j s : Nat} (h : F[j]? = some s) : mvs (rename b F) j = (mvs b s).map fun p => (p.1, F.idxOf p.2) := by
  refine mvs_of ?_
  unfold rename
  rw [List.getElem?_map, h]
  rfl
theorem idx_of {F : List Nat} (nd : F.Nodup) {j s : Nat} (h : F[j]? = some s) : F.idxOf s = j := by
  obtain ⟨hj, e⟩ := List.getElem?_eq_some_iff.mp h
  rw [← e]
  exact List.Nodup.idxOf_getElem nd j hj
theorem nodup_le {n : Nat} {F : List Nat} (nd : F.Nodup) (lt : ∀ s ∈ F, s < n) : F.length ≤ n := by
  have h := (List.nodup_range (n := n))
  have : F ⊆ List.range n := fun s hs => List.mem_range.mpr (lt s hs)
  have := List.Nodup.length_le_of_subset nd this
  simpa using this
theorem Met.okB {b : Book} {F : List Nat} (m : Met b F) (h8 : b.length ≤ 8) (hs : ∀ s, s < b.length → (mvs b s).length ≤ 5 ∧ ((mvs b s).map (·.1)).Pairwise (· < ·) ∧ ∀ p ∈ mvs b s, p.1 ≤ 99) : OkB (rename b F) := by
  have h0 : 0 < F.length := (List.getElem?_eq_some_iff.mp m.zero).1
  have hle : F.length ≤ b.length := nodup_le m.nd m.lt
  refine { one := by rw [rename_len]; exact h0, eight := by rw [rename_len]; omega, st := fun x hx => ?_, reach := fun j hj => ?_ }
  · obtain ⟨s, hsF, rfl⟩ := List.mem_map.mp hx
    obtain ⟨a1, a2, a3⟩ := hs s (m.lt s hsF)
    refine ⟨by rw [List.length_map]; exact a1, ?_, fun p hp => ?_, fun p hp => ?_⟩
    · rw [List.map_map]
      exact a2
    · obtain ⟨q, hq, rfl⟩ := List.mem_map.mp hp
      exact a3 q hq
    · obtain ⟨q, hq, rfl⟩ := List.mem_map.mp hp
      rw [rename_len]
      exact List.idxOf_lt_length_of_mem (m.cl s hsF q hq)
  · rw [rename_len] at hj
    have key : ∀ n, ∀ j, j ≤ n → j < F.length → Rch (rename b F) j := by
      intro n
      induction n with
      | zero =>
        intro j h1 _
        have e : j = 0 := by omega
        rw [e]
        exact .zero
      | succ n ih =>
        intro j h1 h2
        by_cases e : j = 0
        · subst e; exact .zero
        · obtain ⟨i, s', hi, hs', p, hp, ep⟩ := m.from_ j F[j] (List.getElem?_eq_getElem h2) e
          have r := ih i (by omega) (by omega)
          have : (p.1, F.idxOf p.2) ∈ mvs (rename b F) i := by
            rw [rename_at hs']
            exact List.mem_map.mpr ⟨p, hp, rfl⟩
          have r2 := Rch.step r this
          have e2 : F.idxOf p.2 = j := idx_of m.nd (by rw [ep]; exact List.getElem?_eq_getElem h2)
          rw [e2] at r2
          exact r2
    exact key j j (Nat.le_refl _) hj
/-! ### meeting, step by step -/
structure MetI (b : Book) (F : List Nat) (i : Nat) : Prop where
  nd : F.Nodup
  zero : F[0]? = some 0
  lt : ∀ s ∈ F, s < b.length
  from_ : ∀ j s, F[j]? = some s → j ≠ 0 → ∃ i s', i < j ∧ F[i]? = some s' ∧ ∃ p ∈ mvs b s', p.2 = s
  le : i ≤ F.length
  cl : ∀ j s, j < i → F[j]? = some s → ∀ p ∈ mvs b s, p.2 ∈ F
structure MetW (b : Book) (F : List Nat) (i s k : Nat) : Prop extends MetI b F i where
  here : F[i]? = some s
  part : ∀ p ∈ (mvs b s).take k, p.2 ∈ F
theorem MetI.first {b : Book} (h : 1 ≤ b.length) : MetI b [0] 0 where
  nd := by simp
  zero := rfl
  lt := fun s hs => by simp at hs; omega
  from_ := fun j s h n => by
    have := (List.getElem?_eq_some_iff.mp h).1
    simp at this
    omega
  le := by simp
  cl := fun j s h => by omega
theorem MetI.begin {b : Book} {F : List Nat} {i s : Nat} (m : MetI b F i) (h : F[i]? = some s) : MetW b F i s 0 := { m with here := h, part := fun p hp => by simp at hp }
theorem MetW.skip {b : Book} {F : List Nat} {i s k : Nat} {p : Nat × Nat} (m : MetW b F i s k) (h : (mvs b s)[k]? = some p) (hp : p.2 ∈ F) : MetW b F i s (k + 1) := { m with
  part := fun q hq => by
    rw [List.take_add_one, h] at hq
    rcases List.mem_append.mp hq with hq | hq
    · exact m.part q hq
    · simp at hq
      rw [hq]
      exact hp }
theorem MetW.push {b : Book} {F : List Nat} {i s k : Nat} {p : Nat × Nat} (m : MetW b F i s k) (h : (mvs b s)[k]? = some p) (hp : p.2 ∉ F) (hb : p.2 < b.length) : MetW b (F ++ [p.2]) i s (k + 1) := by
  have old : ∀ {j x : Nat}, F[j]? = some x → (F ++ [p.2])[j]? = some x := fun {j x} e => by
    rw [List.getElem?_append_left (List.getElem?_eq_some_iff.mp e).1]
    exact e
  refine { nd := ?_, zero := old m.zero, lt := fun x hx => ?_, from_ := fun j x e n => ?_, le := ?_, cl := fun j x hj e q hq => ?_, here := old m.here, part := fun q hq => ?_ }
  · rw [List.nodup_append]
    refine ⟨m.nd, by simp, fun a ha c hc => ?_⟩
    simp at hc
    rw [hc]
    exact fun z => hp (z ▸ ha)
  · rcases List.mem_append.mp hx with hx | hx
    · exact m.lt x hx
    · simp at hx
      rw [hx]
      exact hb
  · by_cases hj : j < F.length
    · rw [List.getElem?_append_left hj] at e
      obtain ⟨i', s', h1, h2, h3⟩ := m.from_ j x e n
      exact ⟨i', s', h1, old h2, h3⟩
    · rw [List.getElem?_append_right (by omega)] at e
      have hz : j - F.length = 0 := by
        have := (List.getElem?_eq_some_iff.mp e).1
        simp at this
        omega
      rw [hz] at e
      cases e
      have hi := (List.getElem?_eq_some_iff.mp m.here).1
      exact ⟨i, s, by omega, old m.here, p, List.mem_of_getElem? h, rfl⟩
  · rw [List.length_append]
    have := m.le
    omega
  · have hjF : j < F.length := by
      have := m.le
      omega
    rw [List.getElem?_append_left hjF] at e
    exact List.mem_append_left _ (m.cl j x hj e q hq)
  · rw [List.take_add_one, h] at hq
    rcases List.mem_append.mp hq with hq | hq
    · exact List.mem_append_left _ (m.part q hq)
    · simp at hq
      rw [hq]
      simp
theorem MetW.done {b : Book} {F : List Nat} {i s k : Nat} (m : MetW b F i s k) (hk : (mvs b s).length ≤ k) : MetI b F (i + 1) := { m with
  le := (List.getElem?_eq_some_iff.mp m.here).1
  cl := fun j x hj e q hq => by
    by_cases hji : j < i
    · exact m.cl j x hji e q hq
    · have : j = i := by omega
      subst this
      rw [m.here] at e
      cases e
      exact m.part q (by rw [List.take_of_length_le hk]; exact hq) }
theorem MetI.met {b : Book} {F : List Nat} {i : Nat} (m : MetI b F i) (h : i = F.length ∨ i = b.length) : Met b F := { m with
  cl := fun s hs p hp => by
    obtain ⟨j, hj, e⟩ := List.mem_iff_getElem.mp hs
    have : F.length ≤ i := by
      rcases h with h | h
      · omega
      · rw [h]
        exact nodup_le m.nd m.lt
    exact m.cl j s (by omega) (by rw [List.getElem?_eq_getElem hj, e]) p hp }
end Nv
set_option Elab.async false
set_option linter.all false
set_option maxRecDepth 100000
namespace Nv
open PySem PySem.Spec PyProof.Rows L2
/-! ### the form of a book, of any data -/
def wholeD : PyData → Bool
  | .int _ => true
  | _ => false
def inD (d : PyData) (lo hi : Int) : Bool := match d with
  | .int i => decide (lo ≤ i ∧ i ≤ hi)
  | _ => false
def tupD (d : PyData) (lo hi : Int) : Bool := match d with
  | .tuple ds => decide (lo ≤ (ds.length : Int) ∧ (ds.length : Int) ≤ hi)
  | _ => false
/-- a move's form behind the message last: its message -/
def pairD (last n : Int) (d : PyData) : Option Int := match d with
  | .tuple [.int m, .int t] => if last + 1 ≤ m ∧ m ≤ 99 ∧ 0 ≤ t ∧ t ≤ n - 1 then some m else none
  | _ => none
def pairsD (last n : Int) : List PyData → Bool
  | [] => true
  | d :: r => match pairD last n d with
    | some m => pairsD m n r
    | none => false
def stateD (n : Int) (d : PyData) : Bool := match d with
  | .tuple ds => decide (ds.length ≤ 5) && pairsD (-1) n ds
  | _ => false
def firstBad (n : Int) : List PyData → Nat → Option Int
  | [], _ => none
  | d :: r, i => if stateD n d = true then firstBad n r (i + 1) else some (i : Int)
/-- what BadBook tells of it -/
def formErr (d : PyData) : Option Int := match d with
  | .tuple ds => if 1 ≤ ds.length ∧ ds.length ≤ 8 then firstBad ds.length ds 0 else some (-1)
  | _ => some (-1)
theorem dpAll_len {K : PySem.W.Frag} {H : Hp} : ∀ {vs : List V} {ds : List PyData}, DpAll K H vs ds → vs.length = ds.length
  | _, _, .nil => rfl
  | _, _, .cons _ t => by rw [List.length_cons, List.length_cons, dpAll_len t]
theorem dpAll_get {K : PySem.W.Frag} {H : Hp} : ∀ {vs : List V} {ds : List PyData} {i : Nat} {d : PyData}, DpAll K H vs ds → ds[i]? = some d → ∃ v, vs[i]? = some v ∧ Dp K H v d
  | _, _, _, _, .nil, e => by simp at e
  | _, _, 0, _, .cons r _, e => by cases e; exact ⟨_, rfl, r⟩
  | _, _, i + 1, _, .cons _ t, e => by
    obtain ⟨v, h1, h2⟩ := dpAll_get (i := i) t (by simpa using e)
    exact ⟨v, by simpa using h1, h2⟩
theorem dpAll_get' {K : PySem.W.Frag} {H : Hp} : ∀ {vs : List V} {ds : List PyData} {i : Nat} {v : V}, DpAll K H vs ds → vs[i]? = some v → ∃ d, ds[i]? = some d ∧ Dp K H v d
  | _, _, _, _, .nil, e => by simp at e
  | _, _, 0, _, .cons r _, e => by cases e; exact ⟨_, rfl, r⟩
  | _, _, i + 1, _, .cons _ t, e => by
    obtain ⟨v, h1, h2⟩ := dpAll_get' (i := i) t (by simpa using e)
    exact ⟨v, by simpa using h1, h2⟩
/-- the type of data -/
def tyD : PyData → String
  | .none => "NoneType"
  | .bool _ => "bool"
  | .int _ => "int"
  | .str _ => "str"
  | .list _ => "list"
  | .tuple _ => "tuple"
  | .dict _ => "dict"
theorem SqT.tyT {K : PySem.W.Frag} {H : Hp} {a : Addr} {xs : List V} (h : SqT K H a xs) : TyX K H (.ref a) (.type "tuple") := by
  rcases h with (h | ⟨o, h⟩) | ⟨o, its, n, e, c, _⟩
  · exact .base (.tup h)
  · exact .fTuple h
  · exact .kTuple e c
theorem SqL.tyL {K : PySem.W.Frag} {H : Hp} {a : Addr} {xs : List V} (h : SqL K H a xs) : TyX K H (.ref a) (.type "list") := by
  rcases h with (h | ⟨o, h⟩) | ⟨o, its, n, e, c, _⟩
  · exact .base (.lst h)
  · exact .base (.frz h)
  · exact .kList e c
theorem Dp.ty {K : PySem.W.Frag} {H : Hp} {v : V} {d : PyData} (h : Dp K H v d) : TyX K H v (.type (tyD d)) := by
  cases h with
  | non => exact .base .non
  | bl b => exact .base (.bl b)
  | int i => exact .base (.int i)
  | str x => exact .base (.str x)
  | lst h _ => exact SqL.tyL h
  | tup h _ => exact SqT.tyT h
theorem pairs_cons {last n : Int} {d : PyData} {r : List PyData} : pairsD last n (d :: r) = match pairD last n d with | some m => pairsD m n r | none => false := rfl
end Nv
set_option Elab.async false
set_option linter.all false
set_option maxRecDepth 100000
namespace Nv
open PySem PySem.Spec PyProof.Rows L2
/-! ### written data -/
mutual
theorem Dp.ext0 {K : PySem.W.Frag} {H H' : Hp} (e : Ext [] H H') : ∀ {v : V} {d : PyData}, Dp K H v d → Dp K H' v d
  | _, _, .non => .non
  | _, _, .bl b => .bl b
  | _, _, .int i => .int i
  | _, _, .str x => .str x
  | _, _, .lst h t => .lst (e.frz (by simp) h) (DpAll.ext0 e t)
  | _, _, .tup h t => .tup (e.tup Lsts.nil h) (DpAll.ext0 e t)
theorem DpAll.ext0 {K : PySem.W.Frag} {H H' : Hp} (e : Ext [] H H') : ∀ {vs : List V} {ds : List PyData}, DpAll K H vs ds → DpAll K H' vs ds
  | _, _, .nil => .nil
  | _, _, .cons h t => .cons (Dp.ext0 e h) (DpAll.ext0 e t)
end
theorem peW {X : Cx} {e : Expr} {t t' : TE} (h : PE X e t) (w : ∀ σ H Q, t' σ H Q → t σ H Q) : PE X e t' := ⟨fun pins s σ H Q I q => h.run pins s σ H Q I (w σ H Q q)⟩
theorem paW {X : Cx} {es : List Expr} {t t' : TA} (h : PA X es t) (w : ∀ σ H R, t' σ H R → t σ H R) : PA X es t' := ⟨fun pos pins s σ H R I q => h.run pos pins s σ H R I (w σ H R q)⟩
/-- data told by the slots -/
def tDat (K : PySem.W.Frag) (f : L2.St → Option PyData) : TE := fun σ H Q => ∃ d, f σ = some d ∧ ∀ v H', Ext [] H H' → Dp K H' v d → Q v H'
def tDats (K : PySem.W.Frag) (f : L2.St → Option (List PyData)) : TA := fun σ H R => ∃ ds, f σ = some ds ∧ ds.length ≤ 1000 ∧ ∀ vs H', Ext [] H H' → DpAll K H' vs ds → R vs H'
/-- a new list of data -/
def tDatL (K : PySem.W.Frag) (f : L2.St → Option (List PyData)) : TE := fun σ H Q => ∃ ds, f σ = some ds ∧ ds.length ≤ 1000 ∧ ∀ p vs H', H p = none → H' p = some (.lst vs) → Ext [] H H' → DpAll K H' vs ds → Q (.ref p) H'
def consO (f : L2.St → Option PyData) (g : L2.St → Option (List PyData)) : L2.St → Option (List PyData) := fun σ => match f σ, g σ with
  | some d, some ds => some (d :: ds)
  | _, _ => none
def slotI (i : Nat) (σ : L2.St) : Option PyData := match σ[i]? with
  | some (some (.int n)) => some (.int n)
  | _ => none
theorem slotI_some {i : Nat} {σ : L2.St} {d : PyData} (h : slotI i σ = some d) : ∃ n, σ[i]? = some (some (.int n)) ∧ d = .int n := by
  unfold slotI at h
  split at h
  · rename_i n e
    exact ⟨n, e, (Option.some.inj h).symm⟩
  · cases h
def tupO (g : L2.St → Option (List PyData)) (σ : L2.St) : Option PyData := match g σ with
  | some l => if l.length ≤ 1000 then some (.tuple l) else none
  | none => none
theorem tupO_some {g : L2.St → Option (List PyData)} {σ : L2.St} {d : PyData} (h : tupO g σ = some d) : ∃ l, g σ = some l ∧ l.length ≤ 1000 ∧ d = .tuple l := by
  unfold tupO at h
  split at h
  · rename_i l e
    split at h
    · rename_i hl
      exact ⟨l, e, hl, (Option.some.inj h).symm⟩
    · cases h
  · cases h
theorem consO_some {f : L2.St → Option PyData} {g : L2.St → Option (List PyData)} {σ : L2.St} {l : List PyData} (h : consO f g σ = some l) : ∃ d ds, f σ = some d ∧ g σ = some ds ∧ l = d :: ds := by
  unfold consO at h
  split at h
  · rename_i d ds e1 e2
    exact ⟨d, ds, e1, e2, (Option.some.inj h).symm⟩
  · cases h
section
variable {X : Cx} {K : PySem.W.Frag}
theorem pd_int {i : Int} {j : Nat} {pos : Pos} : PE X (.Constant (.int i) j pos) (tDat K fun _ => some (.int i)) := peW pe_int fun σ H Q ⟨_, e, q⟩ => by cases e; exact q _ H .refl (.int i)
theorem pd_neg {i : Int} {j : Nat} {pos pos' : Pos} : PE X (.UnaryOp .USub (.Constant (.int i) j pos) pos') (tDat K fun _ => some (.int (-i))) := peW (pe_un un_neg pe_int) fun σ H Q ⟨_, e, q⟩ => by cases e; exact ⟨i, rfl, q _ H .refl (.int _)⟩
theorem pd_bool {b : Bool} {j : Nat} {pos : Pos} : PE X (.Constant (.bool b) j pos) (tDat K fun _ => some (.bool b)) := peW pe_bl fun σ H Q ⟨_, e, q⟩ => by cases e; exact q _ H .refl (.bl b)
theorem pd_none {j : Nat} {pos : Pos} : PE X (.Constant .none j pos) (tDat K fun _ => some .none) := peW pe_non fun σ H Q ⟨_, e, q⟩ => by cases e; exact q _ H .refl .non
theorem pd_str {x : Str} {j : Nat} {pos : Pos} : PE X (.Constant (.str x) j pos) (tDat K fun _ => some (.str x)) := peW pe_str fun σ H Q ⟨_, e, q⟩ => by cases e; exact q _ H .refl (.str x)
/-- a slot that holds a number -/
theorem pd_var {e : Expr} {i : Nat} (h : PE X e (tVar i)) : PE X e (tDat K (slotI i)) := peW h fun σ H Q ⟨d, e, q⟩ => by
  obtain ⟨n, hs, rfl⟩ := slotI_some e
  exact ⟨_, hs, q _ H .refl (.int n)⟩
theorem pds_nil : PA X [] (tDats K fun _ => some []) := paW pa_nil fun σ H R ⟨_, e, _, q⟩ => by cases e; exact q [] H .refl .nil
theorem pds_cons {e : Expr} {es : List Expr} {f : L2.St → Option PyData} {g : L2.St → Option (List PyData)} (h : PE X e (tDat K f)) (r : PA X es (tDats K g)) (hs : starEach (e :: es) X.env = (false, eval e X.env) :: starEach es X.env := by rfl) :
    PA X (e :: es) (tDats K (consO f g)) := paW (pa_cons h r hs) fun σ H R ⟨ds, e, hl, q⟩ => by
  obtain ⟨d, l, hf, hg, rfl⟩ := consO_some e
  rw [List.length_cons] at hl
  exact ⟨d, hf, fun v H1 e1 h1 => ⟨l, hg, by omega, fun vs H2 e2 h2 => q (v :: vs) H2 (e1.trans e2) (.cons (Dp.ext0 e2 h1) h2)⟩⟩
theorem pd_tup {es : List Expr} {g : L2.St → Option (List PyData)} {c : Nat} {pos : Pos} (h : PA X es (tDats K g)) : PE X (.Tuple es c pos) (tDat K (tupO g)) :=
  peW (pe_tup h) fun σ H Q ⟨d, e, q⟩ => by
    obtain ⟨l, hg, hl, rfl⟩ := tupO_some e
    refine ⟨l, hg, hl, fun vs H' e1 h1 => ⟨by rw [dpAll_len h1]; exact Nat.le_of_lt (small1000 hl), fun p hp => ?_⟩⟩
    have e2 : Ext [] H' (upd H' p (.tup vs)) := .new hp
    exact q _ _ (e1.trans e2) (.tup (.of upd_same) (DpAll.ext0 e2 h1))
theorem pd_lst {es : List Expr} {g : L2.St → Option (List PyData)} {pos : Pos} (h : PA X es (tDats K g)) : PE X (.List es pos) (tDatL K g) :=
  peW (pe_lst h) fun σ H Q ⟨l, e, hl, q⟩ => ⟨l, e, hl, fun vs H' e1 h1 => ⟨by rw [dpAll_len h1]; exact Nat.le_of_lt (small1000 hl), fun p hp => by
    have e2 : Ext [] H' (upd H' p (.lst vs)) := .new hp
    exact q p vs _ (e1.free hp) upd_same (e1.trans e2) (DpAll.ext0 e2 h1)⟩⟩
end
end Nv
namespace Nv
open PySem PySem.Spec PyProof.Rows L2
theorem DpAll.append {K : PySem.W.Frag} {H : Hp} : ∀ {vs ws : List V} {ds es : List PyData}, DpAll K H vs ds → DpAll K H ws es → DpAll K H (vs ++ ws) (ds ++ es)
  | _, _, _, _, .nil, h => h
  | _, _, _, _, .cons r t, h => .cons r (DpAll.append t h)
theorem DpAll.rep {K : PySem.W.Frag} {H : Hp} {vs : List V} {ds : List PyData} (h : DpAll K H vs ds) : ∀ k : Nat, DpAll K H (List.replicate k vs).flatten (List.replicate k ds).flatten
  | 0 => .nil
  | k + 1 => by
    rw [List.replicate_succ, List.replicate_succ, List.flatten_cons, List.flatten_cons]
    exact DpAll.append h (DpAll.rep h k)
def repO (g : L2.St → Option (List PyData)) (k : Int) (σ : L2.St) : Option PyData := match g σ with
  | some l => if l ≠ [] ∧ l.length ≤ 1000 ∧ 2 ≤ k ∧ k ≤ 1000 then some (.tuple (List.replicate k.toNat l).flatten) else none
  | none => none
theorem pd_rep {X : Cx} {es : List Expr} {g : L2.St → Option (List PyData)} {c j : Nat} {k : Int} {pos p2 p3 : Pos} (h : PA X es (tDats X.K g)) : PE X (.BinOp (.Tuple es c pos) .Mult (.Constant (.int k) j p2) p3) (tDat X.K (repO g k)) :=
  peW (pe_op op_repT (pe_tup h) pe_int) fun σ H Q ⟨d, e, q⟩ => by
    unfold repO at e
    split at e
    · rename_i l hg
      split at e
      · rename_i hc
        obtain ⟨h1, h2, h3, h4⟩ := hc
        cases e
        refine ⟨l, hg, h2, fun vs H' e1 hd => ⟨by rw [dpAll_len hd]; exact Nat.le_of_lt (small1000 h2), fun p hp => ?_⟩⟩
        have e2 : Ext [] H' (upd H' p (.tup vs)) := .new hp
        refine ⟨p, k, vs, rfl, rfl, .of upd_same, fun z => h1 ?_, h3, h4, by rw [dpAll_len hd]; exact h2, fun t ht => ?_⟩
        · have := dpAll_len hd
          rw [z] at this
          exact List.eq_nil_of_length_eq_zero this.symm
        · have e3 := e2.put2 (o := .tup (List.replicate k.toNat vs).flatten) ht
          exact q _ _ (e1.trans e3) (.tup (.of upd_same) (DpAll.rep (DpAll.ext0 e3 hd) k.toNat))
      · cases e
    · cases e
end Nv
namespace Nv
open PySem PySem.Spec PyProof.Rows L2
mutual
def noL : PyData → Bool
  | .list _ => false
  | .tuple ds => noLs ds
  | _ => true
def noLs : List PyData → Bool
  | [] => true
  | d :: r => noL d && noLs r
end
mutual
theorem Dp.extL {K : PySem.W.Frag} {L : List Addr} {H H' : Hp} (e : Ext L H H') (l : Lsts L H) : ∀ {v : V} {d : PyData}, Dp K H v d → noL d = true → Dp K H' v d
  | _, _, .non, _ => .non
  | _, _, .bl b, _ => .bl b
  | _, _, .int i, _ => .int i
  | _, _, .str x, _ => .str x
  | _, _, .lst _ _, h => by simp [noL] at h
  | _, _, .tup h t, n => .tup (e.tup l h) (DpAll.extL e l t (by simpa [noL] using n))
theorem DpAll.extL {K : PySem.W.Frag} {L : List Addr} {H H' : Hp} (e : Ext L H H') (l : Lsts L H) : ∀ {vs : List V} {ds : List PyData}, DpAll K H vs ds → noLs ds = true → DpAll K H' vs ds
  | _, _, .nil, _ => .nil
  | _, _, .cons h t, n => by
    simp only [noLs, Bool.and_eq_true] at n
    exact .cons (Dp.extL e l h n.1) (DpAll.extL e l t n.2)
end
end Nv
set_option Elab.async false
set_option linter.all false
set_option maxRecDepth 100000
namespace Nv
open PySem PySem.Spec PyProof.Rows L2
section
variable {P : Program} {w : World} {K : PySem.W.Frag} {mg : Str → Option Value} {base : Heap}
/-! ### numbers and tuples: the program's checks -/
theorem sc_whole : FnScope ["thing"] ["thing"] (defScope s_whole) := ⟨rfl, rfl, rfl, by decide +kernel, rfl, by decide +kernel, by decide +kernel⟩
def sp_whole : Sp := fun vs H Q _ => ∃ i : Int, vs = [.int i] ∧ Q (.bl true) H
theorem ok_whole (T : Tx K mg) : FnOk P w K mg base CX0 1 T.whole.f T.whole.fd ["thing"] sp_whole := by
  refine T.whole.F.ok sc_whole (fun vs H Q E h => ?_) (fun cdv A outer s H vs Q E hr h => ?_)
  · obtain ⟨i, rfl, _⟩ := h; rfl
  · obtain ⟨i, rfl, q⟩ := h
    refine ⟨_, (pss_one (ps_ret (pe_and (pe_callB call_isi (by rfl) T.n_isinstance (by decide +kernel) (pa_cons (pv 0) (pa_cons (pe_bltn (v := .ty "int") (by rfl) T.n_int (by decide +kernel) rfl) pa_nil))) (pe_one (pe_not (pe_callB call_isi (by rfl) T.n_isinstance (by decide +kernel) (pa_cons (pv 0) (pa_cons (pe_bltn (v := .ty "bool") (by rfl) T.n_bool (by decide +kernel) rfl) pa_nil)))))))), ?_⟩
    refine ⟨_, rfl, _, _, _, _, _, rfl, .ty _, .base (.int i), kit_ty (b := "int") (r := true) (by decide +kernel), true, rfl, iteT ⟨_, rfl, _, _, _, _, _, rfl, .ty _, .base (.int i), kit_ty (b := "bool") (r := false) (by decide +kernel), false, rfl, q⟩⟩
theorem sc_whole_within : FnScope ["thing", "low", "high"] ["thing", "low", "high"] (defScope s_whole_within) := ⟨rfl, rfl, rfl, by decide +kernel, rfl, by decide +kernel, by decide +kernel⟩
def sp_whole_within : Sp := fun vs H Q _ => ∃ i a b : Int, vs = [.int i, .int a, .int b] ∧ Q (.bl (decide (a ≤ i ∧ i ≤ b))) H
theorem ok_whole_within (T : Tx K mg) : FnOk P w K mg base CX0 2 T.whole_within.f T.whole_within.fd ["thing", "low", "high"] sp_whole_within := by
  refine T.whole_within.F.ok sc_whole_within (fun vs H Q E h => ?_) (fun cdv A outer s H vs Q E hr h => ?_)
  · obtain ⟨i, a, b, rfl, _⟩ := h; rfl
  · obtain ⟨i, a, b, rfl, q⟩ := h
    refine ⟨_, (pss_one (ps_ret (pe_and (pe_call (ok_whole T) (hr.mono (by decide)) (by rfl) T.whole.g T.whole.F.kp T.whole.b .nil pass0 (pa_cons (pv 0) pa_nil)) (pe_one (pe_chain op_le op_le (pv 1) (pv 0) (pv 2)))))), ?_⟩
    refine ⟨_, rfl, i, rfl, true, rfl, iteT ⟨_, rfl, _, rfl, _, _, rfl, rfl, _, rfl, ?_⟩⟩
    by_cases h1 : a ≤ i
    · rw [decide_eq_true h1]
      refine iteT ⟨_, rfl, _, _, rfl, rfl, ?_⟩
      have e : decide (a ≤ i ∧ i ≤ b) = decide (i ≤ b) := by simp [h1]
      rw [e] at q
      exact q
    · rw [decide_eq_false h1]
      have e : decide (a ≤ i ∧ i ≤ b) = false := by simp [h1]
      rw [e] at q
      exact iteF q
theorem sc_tuple_within : FnScope ["thing", "low", "high"] ["thing", "low", "high"] (defScope s_tuple_within) := ⟨rfl, rfl, rfl, by decide +kernel, rfl, by decide +kernel, by decide +kernel⟩
def sp_tuple_within (K : PySem.W.Frag) : Sp := fun vs H Q _ => ∃ (t : Addr) (xs : List V) (a b : Int), vs = [.ref t, .int a, .int b] ∧ SqT K H t xs ∧ TyX K H (.ref t) (.type "tuple") ∧ Q (.bl (decide (a ≤ (xs.length : Int) ∧ (xs.length : Int) ≤ b))) H
theorem ok_tuple_within (T : Tx K mg) : FnOk P w K mg base CX0 1 T.tuple_within.f T.tuple_within.fd ["thing", "low", "high"] (sp_tuple_within K) := by
  refine T.tuple_within.F.ok sc_tuple_within (fun vs H Q E h => ?_) (fun cdv A outer s H vs Q E hr h => ?_)
  · obtain ⟨t, xs, a, b, rfl, _⟩ := h; rfl
  · obtain ⟨t, xs, a, b, rfl, ht, ty, q⟩ := h
    refine ⟨_, (pss_one (ps_ret (pe_and (pe_callB call_isi (by rfl) T.n_isinstance (by decide +kernel) (pa_cons (pv 0) (pa_cons (pe_bltn (v := .ty "tuple") (by rfl) T.n_tuple (by decide +kernel) rfl) pa_nil))) (pe_one (pe_chain op_le op_le (pv 1) (pe_callB call_len_seq (by rfl) T.n_len PySem.boot_len (pa_cons (pv 0) pa_nil)) (pv 2)))))), ?_⟩
    refine ⟨_, rfl, _, _, _, _, _, rfl, .ty _, ty, kit_ty (b := "tuple") (r := true) (by decide +kernel), true, rfl, iteT ⟨_, rfl, _, rfl, t, xs, rfl, .inr ht, _, _, rfl, rfl, _, rfl, ?_⟩⟩
    by_cases h1 : a ≤ (xs.length : Int)
    · rw [decide_eq_true h1]
      refine iteT ⟨_, rfl, _, _, rfl, rfl, ?_⟩
      have e : decide (a ≤ (xs.length : Int) ∧ (xs.length : Int) ≤ b) = decide ((xs.length : Int) ≤ b) := by simp [h1]
      rw [e] at q
      exact q
    · rw [decide_eq_false h1]
      have e : decide (a ≤ (xs.length : Int) ∧ (xs.length : Int) ≤ b) = false := by simp [h1]
      rw [e] at q
      exact iteF q
theorem SqT.ty {K : PySem.W.Frag} {H : Hp} {a : Addr} {xs : List V} (h : SqT K H a xs) : TyX K H (.ref a) (.type "tuple") := by
  rcases h with (h | ⟨o, h⟩) | ⟨o, its, n, e, c, _⟩
  · exact .base (.tup h)
  · exact .fTuple h
  · exact .kTuple e c
/-! ### the law's draws -/
/-- the pool at p, its list at l -/
def PoolAt (H : Hp) (p l : Addr) : Prop := p ≠ l ∧ ∃ (x y : Int) (ns : List Int), H p = some (.lst [.int x, .int y, .ref l]) ∧ H l = some (.lst (ns.map V.int)) ∧ 0 ≤ x ∧ 0 ≤ y ∧ y < 4294967296 ∧ ns.length ≤ 63
theorem PoolAt.lsts {H : Hp} {p l : Addr} (h : PoolAt H p l) : Lsts [p, l] H := by
  obtain ⟨_, x, y, ns, h1, h2, _⟩ := h
  exact two_lsts h1 h2
theorem PoolAt.ext {H H' : Hp} {p l : Addr} {L : List Addr} (h : PoolAt H p l) (e : Ext L H H') (h1 : p ∉ L) (h2 : l ∉ L) : PoolAt H' p l := by
  obtain ⟨n, x, y, ns, a, b, r⟩ := h
  exact ⟨n, x, y, ns, e _ _ h1 a, e _ _ h2 b, r⟩
theorem PoolAt.ext0 {H H' : Hp} {p l : Addr} (h : PoolAt H p l) (e : Ext [] H H') : PoolAt H' p l := h.ext e (by simp) (by simp)
theorem sc_law_pool : FnScope ["script", "first", "size"] ["script"] (defScope s_law_pool) := ⟨rfl, rfl, rfl, by decide +kernel, rfl, by decide +kernel, by decide +kernel⟩
def sp_law_pool (K : PySem.W.Frag) : Sp := fun vs H Q _ => ∃ (a : Addr) (ns : List Int), vs = [.ref a] ∧ SqL K H a (ns.map V.int) ∧ ns.length ≤ 63 ∧ ∀ (p l : Addr) (H' : Hp), H p = none → H l = none → PoolAt H' p l → Ext [] H H' → Q (.ref p) H'
theorem ok_law_pool (T : Tx K mg) : FnOk P w K mg base CX0 1 T.law_pool.f T.law_pool.fd ["script"] (sp_law_pool K) := by
  refine T.law_pool.F.ok sc_law_pool (fun vs H Q E h => ?_) (fun cdv A outer s H vs Q E hr h => ?_)
  · obtain ⟨a, ns, rfl, _⟩ := h; rfl
  · obtain ⟨a, ns, rfl, hS, hl, q⟩ := h
    refine ⟨_, (C8.pss_cut (ps_set (i := 1) sc_law_pool.nd rfl (.inl rfl) (pe_mid (pe_ifExp (pt_cmpR op_gt (pe_callB call_len_seq (by rfl) T.n_len PySem.boot_len (pa_cons (pv 0) pa_nil)) pe_int (nomark _)) (pe_callTy call_int1 (by rfl) T.n_int (by decide +kernel) (pa_cons (pe_ix ix_list (pv 0) pe_int (fun _ _ => rfl)) pa_nil)) pe_int)))
      (C8.pss_cut (ps_set (i := 2) sc_law_pool.nd rfl (.inl rfl) (pe_mid (pe_ifExp (pt_cmpR op_ge (pv 1) pe_int (nomark _)) (pe_op op_mul pe_int (pv 1)) (pe_op op_sub (pe_un un_neg pe_int) (pe_op op_mul pe_int (pv 1))))))
      (pss_one (ps_ret (pe_lst (pa_cons (pe_mid (pe_ifExp (pt_cmpR op_ge (pv 2) (pe_op op_pow pe_int pe_int) (nomark _)) (pv 2) pe_int)) (pa_cons (pe_op op_add (pe_op op_mod (pe_callTy call_int1 (by rfl) T.n_int (by decide +kernel) (pa_cons (pe_op op_add (pe_op op_mul (pv 2) pe_int) pe_int) pa_nil)) pe_int) pe_int) (pa_cons (pe_callTy call_list_of (by rfl) T.n_list (by decide +kernel) (pa_cons (pe_slice sl_list (pv 0) (po_some pe_int) po_none) pa_nil)) pa_nil)))))))), ?_⟩
    refine ⟨fun σ' H' => H' = H ∧ ∃ i : Int, σ' = [some (.ref a), some (.int i), none], ?_, ?_⟩
    · refine ⟨fun v H' => H' = H ∧ ∃ i : Int, v = .int i, ?_, ?_⟩
      · refine ⟨_, rfl, a, _, rfl, .inl hS, _, _, rfl, rfl, _, rfl, ite2 (fun e => ?_) (fun e => ?_)⟩
        · cases ns with
          | nil => simp at e
          | cons n r => exact ⟨_, rfl, _, _, _, _, rfl, rfl, hS, atI_nat (j := 0) rfl, .inl ⟨_, rfl, rfl, _, rfl⟩⟩
        · exact ⟨rfl, _, rfl⟩
      · rintro v H' ⟨rfl, i, rfl⟩
        exact ⟨rfl, i, rfl⟩
    · rintro σ' H' ⟨rfl, i, rfl⟩
      refine ⟨fun σ' H1 => H1 = H' ∧ ∃ z : Int, 0 ≤ z ∧ σ' = [some (.ref a), some (.int i), some (.int z)], ?_, ?_⟩
      · refine ⟨fun v H1 => H1 = H' ∧ ∃ z : Int, 0 ≤ z ∧ v = .int z, ?_, ?_⟩
        · refine ⟨_, rfl, _, _, rfl, rfl, _, rfl, ite2 (fun e => ?_) (fun e => ?_)⟩
          · have e := of_decide_eq_true e
            exact ⟨_, rfl, _, _, rfl, rfl, .inl ⟨by decide, by decide⟩, rfl, _, by omega, rfl⟩
          · have e : ¬ (0 ≤ i) := fun z => e (decide_eq_true z)
            exact ⟨_, rfl, _, rfl, _, _, rfl, rfl, .inl ⟨by decide, by decide⟩, _, _, rfl, rfl, rfl, _, by omega, rfl⟩
        · rintro v H1 ⟨rfl, z, hz, rfl⟩
          exact ⟨rfl, z, hz, rfl⟩
      · rintro σ' H1 ⟨rfl, z, hz, rfl⟩
        have ym : 0 ≤ (z * 48271 + 1009) % 2147483629 + 3 ∧ (z * 48271 + 1009) % 2147483629 + 3 < 4294967296 := by omega
        refine ⟨fun v H' => H' = H1 ∧ ∃ x : Int, 0 ≤ x ∧ v = .int x, ?_, ?_⟩
        · refine ⟨_, rfl, _, _, rfl, rfl, ⟨by decide, by decide, by decide⟩, _, _, rfl, rfl, _, rfl, ite2 (fun e => ?_) (fun e => ?_)⟩
          · exact ⟨_, rfl, rfl, z, hz, rfl⟩
          · exact ⟨rfl, 0, by omega, rfl⟩
        · rintro v H' ⟨rfl, x, hx, rfl⟩
          refine ⟨_, rfl, _, _, rfl, rfl, .inr ⟨by decide, by decide⟩, _, _, rfl, rfl, .inl ⟨_, rfl, _, _, rfl, rfl, (by show (0:Int) < 2147483629; decide), _, _, rfl, rfl, ?_⟩⟩
          refine ⟨.ref a, rfl, 1, rfl, a, _, rfl, hS, fun c hc => ⟨c, _, rfl, .inl (.of upd_same), fun l hl0 => ⟨(by show 3 ≤ sizeLine; decide), fun p hp => ?_⟩⟩⟩
          have s1 : Ext [] H' (upd H' c (.lst (cutV (ns.map V.int) (some 1) none))) := .new hc
          have s2 := s1.trans (Ext.new (L := []) (o := .lst (cutV (ns.map V.int) (some 1) none)) hl0)
          have pl : p ≠ l := fun e => by rw [e, upd_same] at hp; cases hp
          have cut : ∃ ms : List Int, cutV (ns.map V.int) (some 1) none = ms.map V.int ∧ ms.length ≤ 63 := by
            unfold cutV
            exact ⟨(ns.drop _).take _, by rw [List.map_take, List.map_drop], by rw [List.length_take, List.length_drop]; omega⟩
          obtain ⟨ms, em, hm⟩ := cut
          refine q p l _ (s2.free hp) (s1.free hl0) ⟨pl, x, _, ms, upd_same, ?_, hx, ym.1, ym.2, hm⟩ (s2.trans (.new hp))
          rw [upd_ne pl.symm, upd_same, em]
theorem sc_law_draw : FnScope ["pool", "many", "cell", "size", "found"] ["pool", "many"] (defScope s_law_draw) := ⟨rfl, rfl, rfl, by decide +kernel, rfl, by decide +kernel, by decide +kernel⟩
def sp_law_draw : Sp := fun vs H Q _ => ∃ (p l : Addr) (m : Int), vs = [.ref p, .int m] ∧ PoolAt H p l ∧ 0 < m ∧ m < 1073741824 ∧ ∀ (r : Int) (H' : Hp), 0 ≤ r → r < m → PoolAt H' p l → Ext [p, l] H H' → Q (.int r) H'
theorem ok_law_draw (T : Tx K mg) : FnOk P w K mg base CX0 1 T.law_draw.f T.law_draw.fd ["pool", "many"] sp_law_draw := by
  refine T.law_draw.F.ok sc_law_draw (fun vs H Q E h => ?_) (fun cdv A outer s H vs Q E hr h => ?_)
  · obtain ⟨p, l, m, rfl, _⟩ := h; rfl
  · obtain ⟨p, l, m, rfl, hP, hm, hm2, q⟩ := h
    refine ⟨_, (C8.pss_cut (ps_if (PW.pt (pw_and (pt_cmpR op_eq (pe_ix ix_list (pv 0) pe_int (fun _ _ => rfl)) pe_int (nomark _)) (pw_and1 (pt_cmpR (op_neD (hr.units)) (pe_ix ix_list (pv 0) pe_int (fun _ _ => rfl)) (pe_lst pa_nil) (nomark _)))))
        (pss_cons (ps_set (i := 2) sc_law_draw.nd rfl (.inl rfl) (pe_callTy call_int1 (by rfl) T.n_int (by decide +kernel) (pa_cons (pe_bm PySem.F.plainAttrs_list PySem.F.slot_list_pop PySem.F.type_list_pop mt_popAt (pe_ix ix_list (pv 0) pe_int (fun _ _ => rfl)) (pa_cons pe_int pa_nil)) pa_nil)))
        (pss_cons (ps_set (i := 3) sc_law_draw.nd rfl (.inl rfl) (pe_mid (pe_ifExp (pt_cmpR op_ge (pv 2) pe_int (nomark _)) (pe_op op_mul pe_int (pv 2)) (pe_op op_sub (pe_un un_neg pe_int) (pe_op op_mul pe_int (pv 2))))))
        (pss_cons (ps_asg (pe_mid (pe_ifExp (pt_cmpR op_ge (pv 3) (pe_op op_pow pe_int pe_int) (nomark _)) (pv 3) pe_int)) (pg_sub (pv 0) pe_int set_list))
        (pss_one (ps_asg (pe_op op_add (pe_op op_mod (pe_callTy call_int1 (by rfl) T.n_int (by decide +kernel) (pa_cons (pe_op op_add (pe_ix ix_list (pv 0) pe_int (fun _ _ => rfl)) (pe_op op_mul (pv 3) pe_int)) pa_nil)) pe_int) pe_int) (pg_sub (pv 0) pe_int set_list))))))
        pss_nil)
      (pss_cons (ps_if (pt_cmpR op_gt (pe_ix ix_list (pv 0) pe_int (fun _ _ => rfl)) pe_int (nomark _))
        (pss_cons (ps_set (i := 4) sc_law_draw.nd rfl (.inl rfl) (pe_op op_mod (pe_callTy call_int1 (by rfl) T.n_int (by decide +kernel) (pa_cons (pe_ix ix_list (pv 0) pe_int (fun _ _ => rfl)) pa_nil)) (pv 1)))
        (pss_cons (ps_asg (pe_op op_fdiv (pe_ix ix_list (pv 0) pe_int (fun _ _ => rfl)) (pv 1)) (pg_sub (pv 0) pe_int set_list))
        (pss_one (ps_ret (pv 4)))))
        pss_nil)
      (pss_cons (ps_asg (pe_op op_mod (pe_callTy call_int1 (by rfl) T.n_int (by decide +kernel) (pa_cons (pe_op op_add (pe_op op_mul (pe_ix ix_list (pv 0) pe_int (fun _ _ => rfl)) pe_int) pe_int) pa_nil)) pe_int) (pg_sub (pv 0) pe_int set_list))
      (pss_one (ps_ret (pe_op op_mod (pe_op op_fdiv (pe_op op_mod (pe_callTy call_int1 (by rfl) T.n_int (by decide +kernel) (pa_cons (pe_op op_mul (pe_ix ix_list (pv 0) pe_int (fun _ _ => rfl)) (pe_ix ix_list (pv 0) pe_int (fun _ _ => rfl))) pa_nil)) pe_int) pe_int) (pv 1))))))), ?_⟩
    obtain ⟨npl, x, y, ns, hp, hl, hx, hy, hy2, hn⟩ := id hP
    refine ⟨fun σ' H' => PoolAt H' p l ∧ Ext [p, l] H H' ∧ ∃ a b c, σ' = [some (.ref p), some (.int m), a, b, c], ?_, ?_⟩
    · refine ⟨_, rfl, _, _, _, _, rfl, rfl, .of hp, atI_nat (j := 0) rfl, rfl, _, rfl, ite2 (fun e => ?_) (fun e => ?_)⟩
      · refine ⟨_, rfl, _, _, _, _, rfl, rfl, .of hp, atI_nat (j := 2) rfl, by decide, fun c hc => ?_⟩
        have s1 : Ext [] H (upd H c (.lst [])) := .new hc
        refine ⟨_, _, .lst (.of (s1.at hl (by simp))) (dp_ints ns), .lst (.of upd_same) .nil, shaped_ints ns, by decide, _, rfl, ?_⟩
        rw [eqv_nil]
        cases ns with
        | nil =>
          rw [decide_eq_true rfl]
          exact iteF ⟨hP.ext0 s1, s1.weak, _, _, _, rfl⟩
        | cons n r =>
          rw [decide_eq_false (by simp)]
          refine iteT ?_
          have hp1 := s1.at hp (by simp)
          have hl1 := s1.at hl (by simp)
          -- cell
          refine ⟨_, rfl, _, _, _, _, rfl, rfl, .of hp1, atI_nat (j := 2) rfl, .inl ⟨rfl, _, .of hl1⟩, l, _, 0, 0, .int n, rfl, rfl, hl1, by decide, by decide, (by simp [seqIndex?]), rfl, .inl ⟨_, rfl, ?_⟩⟩
          have hp2 : upd (upd H c (.lst [])) l (.lst (((n :: r).map V.int).eraseIdx 0)) p = some (.lst [.int x, .int y, .ref l]) := by rw [upd_ne npl]; exact hp1
          have hl2 : upd (upd H c (.lst [])) l (.lst (((n :: r).map V.int).eraseIdx 0)) l = some (.lst (r.map V.int)) := upd_same
          have s2 : Ext [p, l] H (upd (upd H c (.lst [])) l (.lst (((n :: r).map V.int).eraseIdx 0))) := s1.weak.trans (.wr (by simp))
          generalize upd (upd H c (.lst [])) l (.lst (((n :: r).map V.int).eraseIdx 0)) = H2 at hp2 hl2 s2
          -- size
          refine ⟨fun v H1 => H1 = H2 ∧ ∃ z : Int, 0 ≤ z ∧ v = .int z, ?_, ?_⟩
          · refine ⟨_, rfl, _, _, rfl, rfl, _, rfl, ite2 (fun e => ?_) (fun e => ?_)⟩
            · have e := of_decide_eq_true e
              exact ⟨_, rfl, _, _, rfl, rfl, .inl ⟨by decide, by decide⟩, rfl, _, by omega, rfl⟩
            · have e : ¬ (0 ≤ n) := fun z => e (decide_eq_true z)
              exact ⟨_, rfl, _, rfl, _, _, rfl, rfl, .inl ⟨by decide, by decide⟩, _, _, rfl, rfl, rfl, _, by omega, rfl⟩
          · rintro v H1 ⟨rfl, z, hz, rfl⟩
            -- pool[0]
            refine ⟨fun v H' => H' = H1 ∧ ∃ x : Int, 0 ≤ x ∧ v = .int x, ?_, ?_⟩
            · refine ⟨_, rfl, _, _, rfl, rfl, ⟨by decide, by decide, by decide⟩, _, _, rfl, rfl, _, rfl, ite2 (fun e => ?_) (fun e => ?_)⟩
              · exact ⟨_, rfl, rfl, z, hz, rfl⟩
              · exact ⟨rfl, 0, by omega, rfl⟩
            · rintro v H' ⟨rfl, x2, hx2, rfl⟩
              refine ⟨_, rfl, p, _, 0, 0, rfl, rfl, hp2, rfl, ?_⟩
              -- pool[1]
              refine ⟨_, rfl, _, _, _, _, rfl, rfl, .of upd_same, atI_nat (j := 1) rfl, _, rfl, _, _, rfl, rfl, .inr ⟨by decide, by decide⟩, _, _, rfl, rfl, .inl ⟨_, rfl, _, _, rfl, rfl, (by show (0:Int) < 2147483629; decide), _, _, rfl, rfl, ?_⟩⟩
              refine ⟨_, rfl, p, _, 1, 1, rfl, rfl, upd_same, rfl, ?_⟩
              rw [upd_upd]
              refine ⟨⟨npl, x2, _, r, upd_same, by rw [upd_ne npl.symm]; exact hl2, hx2, ?_, ?_, ?_⟩, s2.trans (.wr (by simp)), _, _, _, rfl⟩
              · omega
              · omega
              · simp at hn; omega
      · exact iteF ⟨hP, .refl, _, _, _, rfl⟩
    · rintro σ' H1 ⟨⟨npl, x, y, ns, hp, hl, hx, hy, hy2, hn⟩, e1, a, b, c, rfl⟩
      refine ⟨_, rfl, _, _, _, _, rfl, rfl, .of hp, atI_nat (j := 0) rfl, _, _, rfl, rfl, _, rfl, ite2 (fun e => ?_) (fun e => ?_)⟩
      · refine ⟨_, rfl, _, _, _, _, rfl, rfl, .of hp, atI_nat (j := 0) rfl, .inl ⟨_, rfl, _, rfl, _, _, rfl, rfl, hm, ?_⟩⟩
        refine ⟨_, rfl, _, _, _, _, rfl, rfl, .of hp, atI_nat (j := 0) rfl, _, rfl, _, _, rfl, rfl, ⟨hm, hm2⟩, _, rfl, p, _, 0, 0, rfl, rfl, hp, rfl, ?_⟩
        refine ⟨_, rfl, q _ _ (Int.emod_nonneg _ (by omega)) (Int.emod_lt_of_pos _ hm) ⟨npl, x / m, y, ns, upd_same, by rw [upd_ne npl.symm]; exact hl, Int.ediv_nonneg hx (by omega), hy, hy2, hn⟩ (e1.trans (.wr (by simp)))⟩
      · refine ⟨_, rfl, _, _, _, _, rfl, rfl, .of hp, atI_nat (j := 1) rfl, _, _, rfl, rfl, .inr ⟨by decide, by decide⟩, _, _, rfl, rfl, .inl ⟨_, rfl, _, _, rfl, rfl, (by show (0:Int) < 2147483647; decide), ?_⟩⟩
        refine ⟨_, rfl, p, _, 1, 1, rfl, rfl, hp, rfl, ?_⟩
        have yb : 0 ≤ (y * 48271 + 11) % 2147483647 ∧ (y * 48271 + 11) % 2147483647 < 2147483647 := by omega
        refine ⟨_, rfl, _, _, _, _, rfl, rfl, .of upd_same, atI_nat (j := 1) rfl, _, rfl, _, _, _, _, rfl, rfl, .of upd_same, atI_nat (j := 1) rfl, _, _, rfl, rfl, .inl ⟨by omega, by omega⟩, .inl ⟨_, rfl, _, _, rfl, rfl, (by show (0:Int) < 2147483629; decide), _, _, rfl, rfl, ⟨by decide, by decide⟩, _, rfl, _, _, rfl, rfl, hm, ?_⟩⟩
        exact q _ _ (Int.emod_nonneg _ (by omega)) (Int.emod_lt_of_pos _ hm) ⟨npl, x, _, ns, upd_same, by rw [upd_ne npl.symm]; exact hl, hx, yb.1, by omega, hn⟩ (e1.trans (.wr (by simp)))
theorem sc_law_pick : FnScope ["pool", "things"] ["pool", "things"] (defScope s_law_pick) := ⟨rfl, rfl, rfl, by decide +kernel, rfl, by decide +kernel, by decide +kernel⟩
def sp_law_pick (K : PySem.W.Frag) : Sp := fun vs H Q _ => ∃ (p l t : Addr) (xs : List V), vs = [.ref p, .ref t] ∧ PoolAt H p l ∧ SqL K H t xs ∧ t ≠ p ∧ t ≠ l ∧ 0 < xs.length ∧ xs.length < 1000 ∧ ∀ (i : Nat) (v : V) (H' : Hp), xs[i]? = some v → PoolAt H' p l → Ext [p, l] H H' → Q v H'
theorem ok_law_pick (T : Tx K mg) : FnOk P w K mg base CX0 2 T.law_pick.f T.law_pick.fd ["pool", "things"] (sp_law_pick K) := by
  refine T.law_pick.F.ok sc_law_pick (fun vs H Q E h => ?_) (fun cdv A outer s H vs Q E hr h => ?_)
  · obtain ⟨p, l, t, xs, rfl, _⟩ := h; rfl
  · obtain ⟨p, l, t, xs, rfl, hP, hS, n1, n2, h0, h1, q⟩ := h
    refine ⟨_, (pss_one (ps_ret (pe_ix ix_list (pv 1) (pe_call (ok_law_draw T) (hr.mono (by decide)) (by rfl) T.law_draw.g T.law_draw.F.kp T.law_draw.b .nil pass0 (pa_cons (pv 0) (pa_cons (pe_callB call_len_seq (by rfl) T.n_len PySem.boot_len (pa_cons (pv 1) pa_nil)) pa_nil))) (fun _ _ => rfl)))), ?_⟩
    refine ⟨_, rfl, _, rfl, _, rfl, t, xs, rfl, .inl hS, p, l, _, rfl, hP, by omega, by omega, fun r H' r0 r1 hP' e => ?_⟩
    obtain ⟨i, rfl⟩ : ∃ i : Nat, r = (i : Int) := ⟨r.toNat, by omega⟩
    have hi : i < xs.length := by omega
    exact ⟨t, xs, _, xs[i], rfl, rfl, e.frz (by simp [n1, n2]) hS, atI_nat (List.getElem?_eq_getElem hi), q i _ _ (List.getElem?_eq_getElem hi) hP' e⟩
end
end Nv
set_option Elab.async false
set_option linter.all false
set_option maxRecDepth 100000
namespace Nv
open PySem PySem.Spec PyProof.Rows L2
section
variable {P : Program} {w : World} {K : PySem.W.Frag} {mg : Str → Option Value} {base : Heap}
/-! ### the law's books: meeting -/
theorem sc_law_book_meeting : FnScope ["moves", "found", "at", "message", "to", "state"] ["moves"] (defScope s_law_book_meeting) := ⟨rfl, rfl, rfl, by decide +kernel, rfl, by decide +kernel, by decide +kernel⟩
def sp_law_book_meeting (K : PySem.W.Frag) : Sp := fun vs H Q _ => ∃ (m : V) (b : Book), vs = [m] ∧ LbV K H m b ∧ 1 ≤ b.length ∧ b.length ≤ 1000 ∧ (∀ s, (mvs b s).length ≤ 1000 ∧ ∀ p ∈ mvs b s, p.2 < b.length) ∧ ∀ (F : List Nat) (v : V) (H' : Hp), Met b F → BkV K H' v (rename b F) → Ext [] H H' → Q v H'
theorem ok_law_book_meeting (T : Tx K mg) : FnOk P w K mg base CX0 1 T.law_book_meeting.f T.law_book_meeting.fd ["moves"] (sp_law_book_meeting K) := by
  refine T.law_book_meeting.F.ok sc_law_book_meeting (fun vs H Q E h => ?_) (fun cdv A outer s H vs Q E hr h => ?_)
  · obtain ⟨m, b, rfl, _⟩ := h; rfl
  · obtain ⟨_, b, rfl, ⟨m, ls, rfl, hm, hls⟩, h1, h2, hto, q⟩ := h
    have llen : ls.length = b.length := Paired.len hls
    refine ⟨_, (pss_cons (ps_set (i := 1) sc_law_book_meeting.nd rfl (.inr rfl) (pe_lst (pa_cons pe_int pa_nil)))
      (C8.pss_cut (ps_for PassesOwn.never rfl (pi_range1 (by rfl) T.n_range (pa_cons (pe_callB call_len_seq (by rfl) T.n_len PySem.boot_len (pa_cons (pv 0) pa_nil)) pa_nil)) (pg_name (i := 2) sc_law_book_meeting.nd rfl (.inl rfl))
        (pss_cons (ps_if (pt_cmpR op_eq (pv 2) (pe_callB call_len_seq (by rfl) T.n_len PySem.boot_len (pa_cons (pv 1) pa_nil)) (nomark _))
          (pss_one ps_break)
          pss_nil)
        (pss_one (ps_for PassesOwn.never rfl (pi_list (pe_ix ix_list (pv 0) (pe_ix ix_list (pv 1) (pv 2) (fun _ _ => rfl)) (fun _ _ => rfl))) (pg_tup rfl (pgs_cons (pg_name (i := 3) sc_law_book_meeting.nd rfl (.inl rfl)) (pgs_cons (pg_name (i := 4) sc_law_book_meeting.nd rfl (.inl rfl)) pgs_nil)))
          (pss_one (ps_if (pt_cmpR op_notIn_seq (pv 4) (pv 1) (by rfl))
            (pss_one (ps_expr (pe_bm PySem.F.plainAttrs_list PySem.F.slot_list_append PySem.F.type_list_append mt_append (pv 1) (pa_cons (pv 4) pa_nil))))
            pss_nil))))))
      (pss_one (ps_ret (pe_callTy call_tupZ (by rfl) T.n_tuple (by decide +kernel) (pa_cons (pe_lc (own := [("state", 5)]) rfl sc_law_book_meeting.nd (pi_list (pv 1)) (blkOk_by (own := [("state", 5)]) (N := ["moves", "found", "at", "message", "to", "state"]) (sc := defScope s_law_book_meeting) (by decide +kernel)) (fun _ _ _ _ _ => (pg_name (i := 5) sc_law_book_meeting.nd rfl (.inl rfl))) (fun _ _ _ _ _ => pts_nil) (fun _ _ _ _ _ => (pe_callTy (call_tupZK K) (by rfl) T.n_tuple (by decide +kernel) (pa_cons (pe_lc (own := [("message", 3), ("to", 4)]) rfl sc_law_book_meeting.nd (pi_listK K (pe_ix (ix_listK K) (pv 0) (pv 5) (fun _ _ => rfl))) (blkOk_by (own := [("message", 3), ("to", 4)]) (by kernel_rfl)) (fun _ _ _ _ _ => (pg_tupK (n := 2) K rfl (pgs_cons (pg_name (i := 3) sc_law_book_meeting.nd rfl (.inl rfl)) (pgs_cons (pg_name (i := 4) sc_law_book_meeting.nd rfl (.inl rfl)) pgs_nil)))) (fun _ _ _ _ _ => pts_nil) (fun _ _ _ _ _ => (pe_tup (pa_cons (pv 3) (pa_cons (pe_bmK K PySem.F.plainAttrs_list PySem.F.slot_list_index PySem.F.type_list_index (mt_indexK K) (pv 1) (pa_cons (pv 4) pa_nil)) pa_nil))))) pa_nil)))) pa_nil)))))), ?_⟩
    -- found = [0]
    refine ⟨(by show 1 ≤ sizeLine; decide), fun f hf => ?_⟩
    have e0 : Ext [] H (upd H f (.lst [.int 0])) := .new hf
    have mf : m ≠ f := ne_of_none hm hf
    refine ⟨fun σ H' => ∃ (F : List Nat) (y2 y3 y4 : Option V), σ = [some (.ref m), some (.ref f), y2, y3, y4, none] ∧ Met b F ∧ Ext [] H H' ∧ H' f = some (.lst (F.map nV)), ?_, ?_⟩
    · refine ⟨_, rfl, m, ls, rfl, .inl (.of (e0.at hm (by simp))), _, rfl, by omega, by omega, for_range (lo := 0) (n := _) (fun i σ H' => ∃ (F : List Nat) (y2 y3 y4 : Option V), σ = [some (.ref m), some (.ref f), y2, y3, y4, none] ∧ MetI b F i ∧ Ext [] H H' ∧ H' f = some (.lst (F.map nV))) ⟨[0], _, _, _, rfl, .first h1, e0, upd_same⟩ ?_ ?_⟩
      · rintro i σ H' hi ⟨F, y2, y3, y4, rfl, mi, e, hF⟩
        simp only [Int.zero_add]
        have hin : i < b.length := by
          have : ((ls.length : Int)).toNat = ls.length := Int.toNat_natCast _
          omega
        -- if at == len(found)
        refine ⟨_, rfl, _, rfl, f, _, rfl, .inl (.of hF), rfl, _, rfl, ?_⟩
        rw [dec_int]
        refine ite2 (fun z => ?_) (fun z => ?_)
        · have z := of_decide_eq_true z
          rw [List.length_map] at z
          exact ⟨F, _, _, _, rfl, mi.met (.inl (by omega)), e, hF⟩
        · have z : ¬ ((i : Int) = ((F.map nV).length : Int)) := fun y => z (decide_eq_true y)
          rw [List.length_map] at z
          have hiF : i < F.length := by have := mi.le; omega
          have hs : F[i]? = some F[i] := List.getElem?_eq_getElem hiF
          generalize F[i] = x at hs
          have hx : x < b.length := mi.lt x (List.mem_of_getElem? hs)
          -- for message, to in moves[found[at]]
          obtain ⟨u, hu, hst⟩ := Paired.get hls (mvs_lt hx)
          obtain ⟨a, ps, rfl, ha, hps⟩ := hst
          refine ⟨_, rfl, _, rfl, _, rfl, f, _, _, _, rfl, rfl, .of hF, atI_nat (at_map hs), m, _, _, _, rfl, rfl, .of (e.at hm (by simp)), atI_nat hu, a, rfl, ⟨_, .of (e.at ha (by simp))⟩, ?_⟩
          have plen : ps.length = (mvs b x).length := Paired.len hps
          refine for_list (K := K) (a := a) (xs := ps.map V.ref) (fun k σ H' => ∃ (F : List Nat) (y3 y4 : Option V), σ = [some (.ref m), some (.ref f), some (.int i), y3, y4, none] ∧ MetW b F i x k ∧ Ext [] H H' ∧ H' f = some (.lst (F.map nV))) ⟨F, _, _, rfl, mi.begin hs, e, hF⟩ (fun k σ H' _ ⟨_, _, _, _, _, e, _⟩ => .of (e.at ha (by simp))) ?_ ?_
          · rintro k v σ H' hv ⟨F, y3, y4, rfl, mw, e, hF⟩
            obtain ⟨c, hc, rfl⟩ := map_at hv
            obtain ⟨p, hp, hcp⟩ := Paired.get' hps hc
            have hcp := hcp.ext0 e
            refine ⟨c, _, rfl, hcp, rfl, _, _, rfl, _, _, rfl, rfl, ?_⟩
            refine ⟨_, rfl, _, rfl, f, _, rfl, .inl (.of hF), rfl, flat_nV F, _, rfl, ?_⟩
            have pb : p.2 < b.length := (hto x).2 p (List.mem_of_getElem? hp)
            rw [show inV (V.int (p.2 : Int)) (F.map nV) = decide (p.2 ∈ F) from inV_nV p.2 F]
            by_cases hin : p.2 ∈ F
            · rw [decide_eq_true hin]
              exact iteF ⟨F, _, _, rfl, mw.skip hp hin, e, hF⟩
            · rw [decide_eq_false hin]
              have hl1000 : F.length ≤ 1000 := Nat.le_trans (nodup_le mw.nd mw.lt) h2
              refine iteT ⟨_, rfl, .inl ⟨rfl, _, .of hF⟩, _, rfl, f, _, _, rfl, rfl, hF, by rw [List.length_map]; exact small1000 hl1000, F ++ [p.2], _, _, rfl, mw.push hp hin pb, e.put hf, ?_⟩
              rw [upd_same, List.map_append]
              rfl
          · rintro σ H' ⟨F, y3, y4, rfl, mw, e, hF⟩
            exact ⟨F, _, _, _, rfl, mw.done (by rw [List.length_map, plen]; exact Nat.le_refl _), e, hF⟩
      · rintro σ H' ⟨F, y2, y3, y4, rfl, mi, e, hF⟩
        exact ⟨F, _, _, _, rfl, mi.met (.inr (by rw [Int.toNat_natCast, llen])), e, hF⟩
    · rintro σ H1 ⟨F, y2, y3, y4, rfl, mt, e1, hF⟩
      have hl1000 : F.length ≤ 1000 := Nat.le_trans (nodup_le mt.nd mt.lt) h2
      -- the new book
      refine ⟨_, rfl, f, rfl, ⟨_, .of hF⟩, fun D hD => ?_⟩
      have fD : f ≠ D := ne_of_none hF hD
      have hDH : H D = none := e1.free hD
      refine lc_list (K := K) (a := f) (xs := F.map nV) (fun i H' => ∃ vs : List V, H' D = some (.lst vs) ∧ Paired (StV K H') vs ((rename b F).take i) ∧ Ext [] H H' ∧ H' f = some (.lst (F.map nV))) ⟨[], upd_same, .nil, e1.put2 hD, by rw [upd_ne fD]; exact hF⟩ (fun i H' _ ⟨_, _, _, _, h⟩ => .of h) ?_ ?_
      · rintro i v H' hv ⟨vs, hDv, hpd, e, hF'⟩
        obtain ⟨x, hx, rfl⟩ := map_at hv
        have hxb : x < b.length := mt.lt x (List.mem_of_getElem? hx)
        obtain ⟨u, hu, a, ps, rfl, ha, hps⟩ := Paired.get hls (mvs_lt hxb)
        have plen : ps.length = (mvs b x).length := Paired.len hps
        refine ⟨rfl, yes ?_⟩
        refine ⟨_, rfl, _, rfl, m, _, _, _, rfl, rfl, .of (e.at hm (by simp)), atI_nat hu, a, rfl, ⟨_, .of (e.at ha (by simp))⟩, fun D2 hD2 => ?_⟩
        have hD2H : H D2 = none := e.free hD2
        have n1 : D ≠ D2 := ne_of_none hDv hD2
        have n2 : f ≠ D2 := ne_of_none hF' hD2
        refine lc_list (K := K) (a := a) (xs := ps.map V.ref) (fun k H2 => ∃ qs : List Addr, H2 D2 = some (.lst (qs.map V.ref)) ∧ Paired (MvV K H2) qs (((mvs b x).take k).map fun p => (p.1, F.idxOf p.2)) ∧ Ext [] H' H2) ⟨[], upd_same, .nil, .new hD2⟩ (fun k H2 _ ⟨_, _, _, e2⟩ => .of ((e.trans e2).at ha (by simp))) ?_ ?_
        · rintro k v H2 hv ⟨qs, hq, hqp, e2⟩
          obtain ⟨c, hc, rfl⟩ := map_at hv
          obtain ⟨p, hp, hcp⟩ := Paired.get' hps hc
          have hcp := hcp.ext0 (e.trans e2)
          have hF2 := e2.at hF' (by simp)
          have pin : p.2 ∈ F := mt.cl x (List.mem_of_getElem? hx) p (List.mem_of_getElem? hp)
          have hidx : F.idxOf p.2 < F.length := List.idxOf_lt_length_of_mem pin
          refine ⟨c, _, rfl, hcp, rfl, _, _, rfl, _, _, rfl, rfl, rfl, yes ?_⟩
          refine ⟨_, rfl, _, rfl, .inl ⟨rfl, _, .of hF2⟩, _, rfl, f, _, _, F.idxOf p.2, nV p.2, rfl, rfl, .of hF2, rfl, flat_nV F, ?_, by rw [show V.int (p.2 : Int) = nV p.2 from rfl, eqV_nV]; simp, ?_, ?_⟩
          · exact at_map (by rw [List.getElem?_eq_getElem hidx, List.getElem_idxOf])
          · intro j z hj hz
            obtain ⟨y, hy, rfl⟩ := map_at hz
            rw [show V.int (p.2 : Int) = nV p.2 from rfl, eqV_nV]
            refine decide_eq_false fun ey => ?_
            subst ey
            have := idx_of mt.nd hy
            omega
          · refine ⟨(by show 2 ≤ sizeLine; decide), fun t ht => ?_⟩
            have tD2 : D2 ≠ t := ne_of_none hq ht
            have e3 : Ext [] H2 (upd H2 t (.tup [.int p.1, .int (F.idxOf p.2 : Nat)])) := .new ht
            refine ⟨_, e3.at hq (by simp), ?_, qs ++ [t], by rw [upd_same, List.map_append]; rfl, ?_, (e2.trans e3).put hD2⟩
            · rw [List.length_map, Paired.len hqp, List.length_map, List.length_take]
              exact small1000 (Nat.le_trans (Nat.min_le_right _ _) (hto x).1)
            · rw [List.take_add_one, hp, List.map_append]
              refine Paired.snoc ?_ (Paired.imp hqp fun _ _ z => (z.ext0 e3).put (e3.at hq (by simp)))
              exact MvV.put (m := (p.1, F.idxOf p.2)) (.of upd_same) (e3.at hq (by simp))
        · rintro H2 ⟨qs, hq, hqp, e2⟩
          have ek : (mvs b x).take (ps.map V.ref).length = mvs b x := List.take_of_length_le (by rw [List.length_map, plen]; exact Nat.le_refl _)
          rw [ek] at hqp
          refine ⟨D2, _, rfl, .of hq, fun t H3 ht hH3 => ?_⟩
          obtain ⟨o, od, rfl⟩ := hH3
          have e3 : Ext [] H2 (upd H2 t (.frz o (.tup (qs.map V.ref)))) := .new ht
          have e4 := e2.trans e3
          refine ⟨vs, e4.at hDv (by simp), ?_, vs ++ [.ref t], upd_same, ?_, (e.trans e4).put hDH, by rw [upd_ne fD]; exact e4.at hF' (by simp)⟩
          · rw [Paired.len hpd, List.length_take]
            exact small1000 (Nat.le_trans (Nat.min_le_right _ _) (by rw [rename_len]; exact hl1000))
          · have hr' : (rename b F)[i]? = some ((mvs b x).map fun p => (p.1, F.idxOf p.2)) := by
              unfold rename
              rw [List.getElem?_map, hx]
              rfl
            rw [List.take_add_one, hr']
            have hDe := e4.at hDv (by simp)
            refine Paired.snoc ?_ (Paired.imp hpd fun _ _ z => (z.ext0 e4).put hDe)
            exact StV.put ⟨t, qs, rfl, ⟨o, upd_same, od⟩, Paired.imp hqp fun _ _ z => z.ext0 e3⟩ hDe
      · rintro H' ⟨vs, hDv, hpd, e, hF'⟩
        refine ⟨D, vs, rfl, .of hDv, fun t H3 ht hH3 => ?_⟩
        obtain ⟨o, od, rfl⟩ := hH3
        have e3 : Ext [] H' (upd H' t (.frz o (.tup vs))) := .new ht
        have ek : (rename b F).take (F.map nV).length = rename b F := List.take_of_length_le (by rw [List.length_map, rename_len]; exact Nat.le_refl _)
        rw [ek] at hpd
        exact q F _ _ mt ⟨t, vs, rfl, .inl (.inr ⟨o, upd_same⟩), Paired.imp hpd fun _ _ z => z.ext0 e3⟩ (e.trans e3)
end
end Nv
set_option Elab.async false
set_option linter.all false
set_option maxRecDepth 100000
namespace Nv
open PySem PySem.Spec PyProof.Rows L2
section
variable {P : Program} {w : World} {K : PySem.W.Frag} {mg : Str → Option Value} {base : Heap}
/-! ### the law's books: messages -/
theorem seqAt {k n : Nat} (h : k < n) : seqIndex? (k : Int) n = some k := by
  unfold seqIndex?
  have h1 : ¬ ((k : Int) < 0) := by omega
  have h2 : (0 : Int) ≤ k := by omega
  have h3 : (k : Int) < n := by omega
  simp [h1, h2, h3]
theorem sorted_nats {F : List Nat} {ns : List Int} (nd : F.Nodup) (p : ns.Perm (F.map fun n : Nat => (n : Int))) (r : ns.Pairwise (· ≤ ·)) : ∃ ms : List Nat, ns.map V.int = ms.map nV ∧ ms.Perm F ∧ ms.Pairwise (· < ·) := by
  have nn : ∀ z ∈ ns, ∃ n : Nat, z = (n : Int) := fun z hz => by
    obtain ⟨n, _, rfl⟩ := List.mem_map.mp (p.mem_iff.mp hz)
    exact ⟨n, rfl⟩
  have nd2 : ns.Nodup := by
    rw [p.nodup_iff]
    refine List.Pairwise.map _ (fun a b h e => h ?_) nd
    exact Int.ofNat.inj e
  have r2 := lt_of_le_nodup ns r nd2
  refine ⟨ns.map Int.toNat, ?_, ?_, ?_⟩
  · rw [List.map_map]
    refine List.map_congr_left fun z hz => ?_
    obtain ⟨n, rfl⟩ := nn z hz
    rfl
  · have q := p.map Int.toNat
    rw [List.map_map] at q
    have e : F.map (Int.toNat ∘ fun n : Nat => (n : Int)) = F := by
      conv => rhs; rw [← List.map_id F]
      exact List.map_congr_left fun z _ => rfl
    rw [e] at q
    exact q
  · rw [List.pairwise_map]
    refine List.Pairwise.imp_of_mem (fun {a b} ha hb h => ?_) r2
    obtain ⟨n, rfl⟩ := nn a ha
    obtain ⟨m, rfl⟩ := nn b hb
    simp
    omega
theorem map_nV_int (F : List Nat) : F.map nV = (F.map fun n : Nat => (n : Int)).map V.int := by rw [List.map_map]; rfl
theorem rgV_nV (n : Nat) : rgV 0 (n : Int) = (List.range n).map nV := by
  unfold rgV
  simp
theorem sc_law_book_messages : FnScope ["pool", "count", "way", "top", "left", "found", "turn"] ["pool", "count"] (defScope s_law_book_messages) := ⟨rfl, rfl, rfl, by decide +kernel, rfl, by decide +kernel, by decide +kernel⟩
def sp_law_book_messages : Sp := fun vs H Q _ => ∃ (p l : Addr) (c : Nat), vs = [.ref p, .int c] ∧ PoolAt H p l ∧ c ≤ 6 ∧ ∀ (ms : List Nat) (t : Addr) (H' : Hp), ms.Pairwise (· < ·) → ms.length = c → (∀ m ∈ ms, m ≤ 99) → H' t = some (.lst (ms.map nV)) → H t = none → PoolAt H' p l → Ext [p, l] H H' → Q (.ref t) H'
theorem ok_law_book_messages (T : Tx K mg) : FnOk P w K mg base CX0 2 T.law_book_messages.f T.law_book_messages.fd ["pool", "count"] sp_law_book_messages := by
  refine T.law_book_messages.F.ok sc_law_book_messages (fun vs H Q E h => ?_) (fun cdv A outer s H vs Q E hr h => ?_)
  · obtain ⟨p, l, c, rfl, _⟩ := h; rfl
  · obtain ⟨p, l, c, rfl, hP, hc, q⟩ := h
    refine ⟨_, (pss_cons (ps_set (i := 2) sc_law_book_messages.nd rfl (.inl rfl) (pe_call (ok_law_draw T) (hr.mono (by decide)) (by rfl) T.law_draw.g T.law_draw.F.kp T.law_draw.b .nil pass0 (pa_cons (pv 0) (pa_cons pe_int pa_nil))))
      (C8.pss_cut (ps_set (i := 3) sc_law_book_messages.nd rfl (.inl rfl) (pe_ix ix_list (pe_lst (pa_cons (pv 1) (pa_cons (pv 1) (pa_cons (pe_callB (call_min2 rfl) (by rfl) T.n_min (by decide +kernel) (pa_cons (pe_op op_add (pv 1) pe_int) (pa_cons pe_int pa_nil))) (pa_cons pe_int pa_nil))))) (pv 2) (fun _ _ => rfl)))
      (pss_cons (ps_par (i := 4) (j := 5) (by rfl) sc_law_book_messages.nd rfl rfl (by decide) rfl rfl (pa_cons (pe_listRg rfl (by rfl) T.n_list (prg_1 (by rfl) T.n_range (pv 3))) (pa_cons (pe_lst pa_nil) pa_nil)) (by rfl))
      (pss_cons (ps_for PassesOwn.never rfl (pi_range1 (by rfl) T.n_range (pa_cons (pv 1) pa_nil)) (pg_name (i := 6) sc_law_book_messages.nd rfl (.inl rfl))
        (pss_one (ps_expr (pe_bm PySem.F.plainAttrs_list PySem.F.slot_list_append PySem.F.type_list_append mt_append (pv 5) (pa_cons (pe_bm PySem.F.plainAttrs_list PySem.F.slot_list_pop PySem.F.type_list_pop mt_popAt (pv 4) (pa_cons (pe_mid (pe_ifExp (pt_cmpR op_lt (pv 2) pe_int (nomark _)) (pe_call (ok_law_draw T) (hr.mono (by decide)) (by rfl) T.law_draw.g T.law_draw.F.kp T.law_draw.b .nil pass0 (pa_cons (pv 0) (pa_cons (pe_callB call_len_seq (by rfl) T.n_len PySem.boot_len (pa_cons (pv 4) pa_nil)) pa_nil))) (pe_op op_sub (pe_op op_sub (pe_callB call_len_seq (by rfl) T.n_len PySem.boot_len (pa_cons (pv 4) pa_nil)) pe_int) (pe_call (ok_law_draw T) (hr.mono (by decide)) (by rfl) T.law_draw.g T.law_draw.F.kp T.law_draw.b .nil pass0 (pa_cons (pv 0) (pa_cons pe_int pa_nil)))))) pa_nil)) pa_nil)))))
      (pss_one (ps_ret (pe_callB cr_sorted (by rfl) T.n_sorted (by decide +kernel) (pa_cons (pv 5) pa_nil)))))))), ?_⟩
    -- way
    refine ⟨_, rfl, p, l, 4, rfl, hP, by decide, by decide, fun r H1 r0 r1 P1 e1 => ?_⟩
    -- top
    refine ⟨fun σ H' => ∃ top : Nat, σ = [some (.ref p), some (.int c), some (.int r), some (.int top), none, none, none] ∧ c ≤ top ∧ top ≤ 100 ∧ (r < 3 ∨ top = 100) ∧ PoolAt H' p l ∧ Ext [p, l] H H', ?_, ?_⟩
    · refine ⟨_, rfl, _, rfl, _, rfl, _, _, rfl, rfl, _, _, rfl, (by show 4 ≤ sizeLine; decide), fun d hd => ?_⟩
      have e2 : Ext [] H1 (upd H1 d (.lst [.int c, .int c, .int (if (6 : Int) < (c : Int) + 2 then 6 else (c : Int) + 2), .int 100])) := .new hd
      have m : ∃ t : Nat, (if (6 : Int) < (c : Int) + 2 then 6 else (c : Int) + 2) = t ∧ c ≤ t ∧ t ≤ 100 := by
        by_cases h : (6 : Int) < (c : Int) + 2
        · rw [if_pos h]; exact ⟨6, rfl, hc, by decide⟩
        · rw [if_neg h]; exact ⟨c + 2, by simp, by omega, by omega⟩
      obtain ⟨t, ht, t1, t2⟩ := m
      have four : r = 0 ∨ r = 1 ∨ r = 2 ∨ r = 3 := by omega
      have pe := P1.ext0 e2
      have ee := e1.trans e2.weak
      rcases four with rfl | rfl | rfl | rfl
      · exact ⟨_, rfl, d, _, _, _, rfl, rfl, .of upd_same, atI_nat (j := 0) rfl, c, rfl, Nat.le_refl _, by omega, .inl (by decide), pe, ee⟩
      · exact ⟨_, rfl, d, _, _, _, rfl, rfl, .of upd_same, atI_nat (j := 1) rfl, c, rfl, Nat.le_refl _, by omega, .inl (by decide), pe, ee⟩
      · exact ⟨_, rfl, d, _, _, _, rfl, rfl, .of upd_same, atI_nat (j := 2) rfl, t, by rw [ht]; rfl, t1, t2, .inl (by decide), pe, ee⟩
      · exact ⟨_, rfl, d, _, _, _, rfl, rfl, .of upd_same, atI_nat (j := 3) rfl, 100, rfl, by omega, Nat.le_refl _, .inr rfl, pe, ee⟩
    · rintro σ H2 ⟨top, rfl, c1, c2, c3, P2, e2⟩
      -- left, found
      refine ⟨_, rfl, _, rfl, RgOk.of_le (by omega) (by omega) (by omega) (by omega), fun lf hlf => ⟨Nat.zero_le _, fun fd hfd => ⟨_, _, rfl, ?_⟩⟩⟩
      rw [rgV_nV] at hfd ⊢
      have e3 : Ext [] H2 (upd H2 lf (.lst ((List.range top).map nV))) := .new hlf
      have e4 := e3.trans (Ext.new (L := []) (o := .lst []) hfd)
      have nlf : fd ≠ lf := fun z => by rw [z, upd_same] at hfd; cases hfd
      have h2p : H2 p ≠ none := by obtain ⟨_, _, _, _, a, _⟩ := P2; rw [a]; simp
      have h2l : H2 l ≠ none := by obtain ⟨_, _, _, _, _, a, _⟩ := P2; rw [a]; simp
      have n1 : lf ≠ p := fun z => h2p (z ▸ hlf)
      have n2 : lf ≠ l := fun z => h2l (z ▸ hlf)
      have hfd2 := e3.free hfd
      have n3 : fd ≠ p := fun z => h2p (z ▸ hfd2)
      have n4 : fd ≠ l := fun z => h2l (z ▸ hfd2)
      have f1 : H lf = none := e2.free2 hlf (off2 n1 n2)
      have f2 : H fd = none := e2.free2 hfd2 (off2 n3 n4)
      -- the loop
      refine ⟨_, rfl, _, rfl, by omega, by omega, for_range (lo := 0) (n := _) (fun i σ H' => ∃ (L F : List Nat) (y : Option V), σ = [some (.ref p), some (.int c), some (.int r), some (.int top), some (.ref lf), some (.ref fd), y] ∧ H' lf = some (.lst (L.map nV)) ∧ H' fd = some (.lst (F.map nV)) ∧ (F ++ L).Perm (List.range top) ∧ F.length = i ∧ PoolAt H' p l ∧ Ext [p, l] H H')
        ⟨List.range top, [], _, rfl, by rw [upd_ne nlf.symm, upd_same], upd_same, .refl _, rfl, P2.ext0 e4, e2.trans e4.weak⟩ ?_ ?_⟩
      · rintro i σ H' hi ⟨L, F, y, rfl, hL, hF, hperm, hFl, P', e'⟩
        have hi : i < c := by have : ((c : Int)).toNat = c := Int.toNat_natCast _; omega
        have tot : F.length + L.length = top := by have := hperm.length_eq; simpa using this
        have Lpos : 0 < L.length := by omega
        refine ⟨_, rfl, .inl ⟨rfl, _, .of hF⟩, _, rfl, .inl ⟨rfl, _, .of hL⟩, ?_⟩
        -- the index
        refine ⟨fun v H3 => ∃ k : Nat, v = .int k ∧ k < L.length ∧ H3 lf = some (.lst (L.map nV)) ∧ H3 fd = some (.lst (F.map nV)) ∧ PoolAt H3 p l ∧ Ext [p, l] H H3, ?_, ?_⟩
        · refine ⟨_, rfl, _, _, rfl, rfl, _, rfl, ite2 (fun z => ?_) (fun z => ?_)⟩
          · refine ⟨_, rfl, _, rfl, lf, _, rfl, .inl (.of hL), p, l, _, rfl, P', by rw [List.length_map]; omega, by rw [List.length_map]; omega, fun k H3 k0 k1 P3 e3' => ?_⟩
            rw [List.length_map] at k1
            exact ⟨k.toNat, by rw [Int.toNat_of_nonneg k0], by omega, e3' _ _ (off2 n1 n2) hL, e3' _ _ (off2 n3 n4) hF, P3, e'.trans e3'⟩
          · have z : ¬ r < 3 := fun w => z (decide_eq_true w)
            have t100 : top = 100 := by rcases c3 with c3 | c3; exact absurd c3 z; exact c3
            refine ⟨_, rfl, lf, _, rfl, .inl (.of hL), _, _, rfl, rfl, _, rfl, p, l, 3, rfl, P', by decide, by decide, fun k H3 k0 k1 P3 e3' => ?_⟩
            refine ⟨_, _, rfl, rfl, (L.length - 1 - k.toNat), ?_, by omega, e3' _ _ (off2 n1 n2) hL, e3' _ _ (off2 n3 n4) hF, P3, e'.trans e3'⟩
            have e5 : ((L.map nV).length : Int) - 1 - k = ((L.length - 1 - k.toNat : Nat) : Int) := by
              rw [List.length_map]
              omega
            exact congrArg V.int e5
        · rintro v H3 ⟨k, rfl, hk, hL3, hF3, P3, e3'⟩
          have hy : L[k]? = some L[k] := List.getElem?_eq_getElem hk
          generalize L[k] = y at hy
          refine ⟨lf, _, _, k, nV y, rfl, rfl, hL3, by omega, by omega, by rw [List.length_map]; exact seqAt hk, at_map hy, ?_⟩
          have el : (L.map nV).eraseIdx k = (L.eraseIdx k).map nV := eraseIdx_nV nV L k
          rw [el]
          have hF4 : upd H3 lf (.lst ((L.eraseIdx k).map nV)) fd = some (.lst (F.map nV)) := by rw [upd_ne nlf]; exact hF3
          refine ⟨fd, _, _, rfl, rfl, hF4, by rw [List.length_map]; exact small1000 (by omega), L.eraseIdx k, F ++ [y], _, rfl, by rw [upd_ne nlf.symm, upd_same], ?_, ?_, ?_, ?_, ?_⟩
          · rw [upd_same, List.map_append]; rfl
          · rw [List.append_assoc]
            exact (List.Perm.append_left F (erase_perm L k y hy)).trans hperm
          · rw [List.length_append, hFl]; rfl
          · refine P3.ext (L := [lf, fd]) ((Ext.wr (by simp)).trans (.wr (by simp))) ?_ ?_
            · simp [n1.symm, n3.symm]
            · simp [n2.symm, n4.symm]
          · exact (e3'.put' f1).put' f2
      · rintro σ H' ⟨L, F, y, rfl, hL, hF, hperm, hFl, P', e'⟩
        rw [Int.toNat_natCast] at hFl
        have nd : F.Nodup := (List.nodup_append.mp (hperm.nodup_iff.mpr List.nodup_range)).1
        refine ⟨_, rfl, fd, F.map (fun n : Nat => (n : Int)), rfl, .of (by rw [← map_nV_int]; exact hF), by rw [List.length_map]; omega, fun ns t perm rise ht => ?_⟩
        obtain ⟨ms, e1', e2', e3'⟩ := sorted_nats nd perm rise
        rw [e1']
        have ft : H t = none := e'.free2 ht (off2 (fun z => ?_) (fun z => ?_))
        · refine q ms t _ e3' (by rw [e2'.length_eq]; exact hFl) (fun m hm => ?_) upd_same ft (P'.ext (L := [t]) (.wr (by simp)) ?_ ?_) (e'.put' ft)
          · have h1 := hperm.mem_iff.mp (List.mem_append_left L (e2'.mem_iff.mp hm))
            have := List.mem_range.mp h1
            omega
          · obtain ⟨_, _, _, _, a, _⟩ := P'
            simp
            exact fun z => by rw [z, ht] at a; cases a
          · obtain ⟨_, _, _, _, _, a, _⟩ := P'
            simp
            exact fun z => by rw [z, ht] at a; cases a
        · obtain ⟨_, _, _, _, a, _⟩ := P'
          rw [← z, ht] at a; cases a
        · obtain ⟨_, _, _, _, _, a, _⟩ := P'
          rw [← z, ht] at a; cases a
end
end Nv
set_option Elab.async false
set_option linter.all false
set_option maxRecDepth 100000
namespace Nv
open PySem PySem.Spec PyProof.Rows L2
section
variable {P : Program} {w : World} {K : PySem.W.Frag} {mg : Str → Option Value} {base : Heap}
/-! ### the law's books: drawn -/
theorem PoolAt.off {H : Hp} {p l x : Addr} (h : PoolAt H p l) (hx : H x = none) : x ≠ p ∧ x ≠ l := by
  obtain ⟨_, _, _, _, a, b, _⟩ := h
  refine ⟨fun z => ?_, fun z => ?_⟩
  · rw [z, a] at hx
    cases hx
  · rw [z, b] at hx
    cases hx
theorem PoolAt.put {H : Hp} {p l x : Addr} {o : HO} (h : PoolAt H p l) (h1 : x ≠ p) (h2 : x ≠ l) : PoolAt (upd H x o) p l := h.ext (L := [x]) (.wr (by simp)) (by simp; exact h1.symm) (by simp; exact h2.symm)
structure StD (n m : Nat) (s : State) : Prop where
  few : s.length ≤ m
  rise : (s.map (·.1)).Pairwise (· < ·)
  msg : ∀ q ∈ s, q.1 ≤ 99
  to : ∀ q ∈ s, q.2 < n
theorem StD.set {n m : Nat} {s : State} (h : StD n m s) {k : Nat} {q : Nat × Nat} (hq : s[k]? = some q) {t : Nat} (ht : t < n) : StD n m (s.set k (q.1, t)) := by
  have hm := List.mem_of_getElem? hq
  have e : (s.set k (q.1, t)).map (·.1) = s.map (·.1) := by
    rw [List.map_set]
    refine List.ext_getElem? fun i => ?_
    by_cases hi : k = i
    · subst hi
      have hk : k < (s.map (·.1)).length := by
        rw [List.length_map]
        exact (List.getElem?_eq_some_iff.mp hq).1
      rw [List.getElem?_set_self hk, List.getElem?_map, hq]
      rfl
    · rw [List.getElem?_set_ne hi]
  refine ⟨by rw [List.length_set]; exact h.few, by rw [e]; exact h.rise, fun z hz => ?_, fun z hz => ?_⟩
  · rcases List.mem_or_eq_of_mem_set hz with hz | rfl
    · exact h.msg z hz
    · exact h.msg q hm
  · rcases List.mem_or_eq_of_mem_set hz with hz | rfl
    · exact h.to z hz
    · exact ht
theorem sc_law_book_drawn : FnScope ["pool", "states", "most", "size", "way", "moves", "state", "count", "told", "message", "to", "at"] ["pool", "states", "most"] (defScope s_law_book_drawn) := ⟨rfl, rfl, rfl, by decide +kernel, rfl, by decide +kernel, by decide +kernel⟩
def sp_law_book_drawn (K : PySem.W.Frag) : Sp := fun vs H Q _ => ∃ (p l : Addr) (S M : Nat), vs = [.ref p, .int S, .int M] ∧ PoolAt H p l ∧ 1 ≤ S ∧ S ≤ 8 ∧ M ≤ 5 ∧ ∀ (b : Book) (v : V) (H' : Hp), OkB b → b.length ≤ S → (∀ s ∈ b, s.length ≤ M) → BkV K H' v b → PoolAt H' p l → Ext [p, l] H H' → Q v H'
theorem ok_law_book_drawn (T : Tx K mg) : FnOk P w K mg base CX0 3 T.law_book_drawn.f T.law_book_drawn.fd ["pool", "states", "most"] (sp_law_book_drawn K) := by
  refine T.law_book_drawn.F.ok sc_law_book_drawn (fun vs H Q E h => ?_) (fun cdv A outer s H vs Q E hr h => ?_)
  · obtain ⟨p, l, S, M, rfl, _⟩ := h; rfl
  · obtain ⟨p, l, S, M, rfl, hP, hS1, hS8, hM, q⟩ := h
    refine ⟨_, (pss_cons (ps_par3 (i := 3) (j := 4) (l := 5) rfl sc_law_book_drawn.nd rfl rfl rfl (by decide) (by decide) (by decide) rfl rfl rfl (pa_cons (pe_op op_add pe_int (pe_call (ok_law_draw T) (hr.mono (by decide)) (by rfl) T.law_draw.g T.law_draw.F.kp T.law_draw.b .nil pass0 (pa_cons (pv 0) (pa_cons (pv 1) pa_nil)))) (pa_cons (pe_call (ok_law_draw T) (hr.mono (by decide)) (by rfl) T.law_draw.g T.law_draw.F.kp T.law_draw.b .nil pass0 (pa_cons (pv 0) (pa_cons pe_int pa_nil))) (pa_cons (pe_lst pa_nil) pa_nil))) (by rfl))
      (pss_cons (ps_for PassesOwn.never rfl (pi_range1 (by rfl) T.n_range (pa_cons (pv 3) pa_nil)) (pg_name (i := 6) sc_law_book_drawn.nd rfl (.inl rfl))
        (pss_cons (ps_set (i := 7) sc_law_book_drawn.nd rfl (.inl rfl) (pe_call (ok_law_pick T) (hr.mono (by decide)) (by rfl) T.law_pick.g T.law_pick.F.kp T.law_pick.b .nil pass0 (pa_cons (pv 0) (pa_cons (pe_lst (pa_cons pe_int (pa_cons pe_int (pa_cons pe_int (pa_cons pe_int (pa_cons (pe_callB (call_min2 rfl) (by rfl) T.n_min (by decide +kernel) (pa_cons pe_int (pa_cons (pv 2) pa_nil))) (pa_cons (pe_call (ok_law_draw T) (hr.mono (by decide)) (by rfl) T.law_draw.g T.law_draw.F.kp T.law_draw.b .nil pass0 (pa_cons (pv 0) (pa_cons (pe_op op_add (pv 2) pe_int) pa_nil))) pa_nil))))))) pa_nil))))
        (C8.pss_cut (ps_if (PW.pt (pw_and (pt_cmpR op_gt (pv 4) pe_int (nomark _)) (pw_and1 (pt_cmpR op_eq (pv 6) (pe_op op_sub (pv 3) pe_int) (nomark _)))))
          (pss_one (ps_set (i := 7) sc_law_book_drawn.nd rfl (.inl rfl) pe_int))
          pss_nil)
        (pss_cons (ps_set (i := 8) sc_law_book_drawn.nd rfl (.inl rfl) (pe_lst pa_nil))
        (pss_cons (ps_for PassesOwn.never rfl (pi_list (pe_call (ok_law_book_messages T) (hr.mono (by decide)) (by rfl) T.law_book_messages.g T.law_book_messages.F.kp T.law_book_messages.b .nil pass0 (pa_cons (pv 0) (pa_cons (pe_callB (call_min2 rfl) (by rfl) T.n_min (by decide +kernel) (pa_cons (pv 7) (pa_cons (pv 2) pa_nil))) pa_nil)))) (pg_name (i := 9) sc_law_book_drawn.nd rfl (.inl rfl))
          (pss_cons (ps_set (i := 10) sc_law_book_drawn.nd rfl (.inl rfl) (pe_call (ok_law_draw T) (hr.mono (by decide)) (by rfl) T.law_draw.g T.law_draw.F.kp T.law_draw.b .nil pass0 (pa_cons (pv 0) (pa_cons (pv 3) pa_nil))))
          (C8.pss_cut (ps_if (PW.pt (pw_and (pt_cmpR op_gt (pv 4) pe_int (nomark _)) (pw_and1 (pt_cmpR op_lt (pv 6) (pe_op op_sub (pv 3) pe_int) (nomark _)))))
            (pss_one (ps_set (i := 10) sc_law_book_drawn.nd rfl (.inl rfl) (pe_op op_add (pe_op op_add (pv 6) pe_int) (pe_call (ok_law_draw T) (hr.mono (by decide)) (by rfl) T.law_draw.g T.law_draw.F.kp T.law_draw.b .nil pass0 (pa_cons (pv 0) (pa_cons (pe_op op_sub (pe_op op_sub (pv 3) pe_int) (pv 6)) pa_nil))))))
            pss_nil)
          (pss_one (ps_expr (pe_bm PySem.F.plainAttrs_list PySem.F.slot_list_append PySem.F.type_list_append mt_append (pv 8) (pa_cons (pe_tup (pa_cons (pv 9) (pa_cons (pv 10) pa_nil))) pa_nil)))))))
        (C8.pss_cut (ps_if (PW.pt (pw_and (pt_cmpR op_gt (pv 4) pe_int (nomark _)) (pw_and1 (pt_cmpR (op_neD (hr.units)) (pv 8) (pe_lst pa_nil) (nomark _)))))
          (pss_cons (ps_set (i := 11) sc_law_book_drawn.nd rfl (.inl rfl) (pe_call (ok_law_draw T) (hr.mono (by decide)) (by rfl) T.law_draw.g T.law_draw.F.kp T.law_draw.b .nil pass0 (pa_cons (pv 0) (pa_cons (pe_callB call_len_seq (by rfl) T.n_len PySem.boot_len (pa_cons (pv 8) pa_nil)) pa_nil))))
          (pss_one (ps_asg (pe_tup (pa_cons (pe_ix ix_tup (pe_ix ix_list (pv 8) (pv 11) (fun _ _ => rfl)) pe_int (fun _ _ => rfl)) (pa_cons (pe_mid (pe_ifExp (pt_cmpR op_lt (pv 4) pe_int (nomark _)) (pe_op op_mod (pe_callTy call_int1 (by rfl) T.n_int (by decide +kernel) (pa_cons (pe_op op_add (pv 6) pe_int) pa_nil)) (pv 3)) (pe_callB (call_min2 rfl) (by rfl) T.n_min (by decide +kernel) (pa_cons (pe_op op_add (pv 6) pe_int) (pa_cons (pe_op op_sub (pv 3) pe_int) pa_nil))))) pa_nil))) (pg_sub (pv 8) (pv 11) set_list))))
          pss_nil)
        (pss_one (ps_expr (pe_bm PySem.F.plainAttrs_list PySem.F.slot_list_append PySem.F.type_list_append mt_append (pv 5) (pa_cons (pv 8) pa_nil))))))))))
      (pss_one (ps_ret (pe_call (ok_law_book_meeting T) (hr.mono (by decide)) (by rfl) T.law_book_meeting.g T.law_book_meeting.F.kp T.law_book_meeting.b .nil pass0 (pa_cons (pv 5) pa_nil)))))), ?_⟩
    -- size, way, moves
    refine ⟨_, rfl, _, rfl, p, l, _, rfl, hP, by omega, by omega, fun r H1 r0 r1 P1 e1 => ⟨_, _, rfl, rfl, ?_⟩⟩
    refine ⟨_, rfl, p, l, 6, rfl, P1, by decide, by decide, fun way H2 w0 w1 P2 e2 => ⟨Nat.zero_le _, fun mv hmv => ⟨_, _, _, rfl, ?_⟩⟩⟩
    obtain ⟨n, hn⟩ : ∃ n : Nat, 1 + r = (n : Int) := ⟨(1 + r).toNat, by omega⟩
    have hn1 : 1 ≤ n := by omega
    have hnS : n ≤ S := by omega
    show _
    simp only [hn]
    obtain ⟨mp, ml⟩ := P2.off hmv
    have fmv : H mv = none := (e1.trans e2).free2 hmv (off2 mp ml)
    -- the loop
    refine ⟨_, rfl, _, rfl, by omega, by omega, for_range (lo := 0) (n := _) (fun i σ H' => ∃ (vs : List V) (b : Book) (y6 y7 y8 y9 y10 y11 : Option V), σ = [some (.ref p), some (.int S), some (.int M), some (.int n), some (.int way), some (.ref mv), y6, y7, y8, y9, y10, y11] ∧ b.length = i ∧
      H' mv = some (.lst vs) ∧ Paired (LsN K H' [p, l, mv]) vs b ∧ (∀ s ∈ b, StD n M s) ∧ PoolAt H' p l ∧ Ext [p, l] H H')
      ⟨[], [], _, _, _, _, _, _, rfl, rfl, upd_same, .nil, (fun s z => nomatch z), P2.put mp ml, (e1.trans e2).put' fmv⟩ ?_ ?_⟩
    · rintro i σ H' hi ⟨vs, b, y6, y7, y8, y9, y10, y11, rfl, hbl, hv, hpd, hst, P', e'⟩
      have hi : i < n := by have : ((n : Int)).toNat = n := Int.toNat_natCast _; omega
      simp only [Int.zero_add]
      -- count
      refine ⟨_, rfl, _, rfl, _, _, rfl, _, rfl, _, rfl, _, _, rfl, rfl, p, l, _, rfl, P', by omega, by omega, fun c0 H3 c00 c01 P3 e3 => ?_⟩
      refine ⟨(by show 6 ≤ sizeLine; decide), fun t ht => ?_⟩
      obtain ⟨tp, tl⟩ := P3.off ht
      refine ⟨p, l, t, _, rfl, P3.put tp tl, .of upd_same, tp, tl, (by show 0 < 6; decide), (by show 6 < 1000; decide), fun k v H4 hk P4 e4 => ?_⟩
      have hc : ∃ c : Nat, v = .int c ∧ c ≤ 5 := by
        have six : k < 6 := (List.getElem?_eq_some_iff.mp hk).1
        have : k = 0 ∨ k = 1 ∨ k = 2 ∨ k = 3 ∨ k = 4 ∨ k = 5 := by omega
        rcases this with rfl | rfl | rfl | rfl | rfl | rfl
        · exact ⟨1, (Option.some.inj hk).symm, by decide⟩
        · exact ⟨1, (Option.some.inj hk).symm, by decide⟩
        · exact ⟨2, (Option.some.inj hk).symm, by decide⟩
        · exact ⟨2, (Option.some.inj hk).symm, by decide⟩
        · have z := (Option.some.inj hk).symm
          by_cases hm : (M : Int) < 2
          · rw [if_pos hm] at z; exact ⟨M, z, by omega⟩
          · rw [if_neg hm] at z; exact ⟨2, z, by decide⟩
        · exact ⟨c0.toNat, by rw [(Option.some.inj hk).symm, Int.toNat_of_nonneg c00], by omega⟩
      obtain ⟨c, rfl, hc5⟩ := hc
      have e5 : Ext [p, l] H' H4 := (e3.trans (Ext.weak (.new ht))).trans e4
      have hpd4 : Paired (LsN K H4 [p, l, mv]) vs b := Paired.imp hpd fun _ _ z => z.ext e5 (by simp) P'.lsts
      have hv4 := e5 _ _ (off2 mp ml) hv
      have e6 := e'.trans e5
      generalize hH : H4 = H5 at *
      clear hH e5 e4 e3 hk ht P' hv hpd P3
      -- if way > 3 and state == size - 1
      refine ⟨fun σ H' => ∃ c : Nat, c ≤ 5 ∧ H' = H5 ∧ σ = [some (.ref p), some (.int S), some (.int M), some (.int n), some (.int way), some (.ref mv), some (.int i), some (.int c), y8, y9, y10, y11], ?_, ?_⟩
      · refine ⟨_, rfl, _, _, rfl, rfl, _, rfl, ite2 (fun z => ?_) (fun z => iteF ⟨c, hc5, rfl, rfl⟩)⟩
        refine ⟨_, rfl, _, rfl, _, _, rfl, rfl, rfl, _, rfl, ite2 (fun z => ?_) (fun z => ?_)⟩
        · exact ⟨0, by decide, rfl, rfl⟩
        · exact ⟨c, hc5, rfl, rfl⟩
      · rintro σ Hb ⟨c, hc5, rfl, rfl⟩
        -- told = []
        refine ⟨Nat.zero_le _, fun td htd => ?_⟩
        obtain ⟨tdp, tdl⟩ := P4.off htd
        have tdmv : td ≠ mv := fun z => by rw [z, hv4] at htd; cases htd
        have b0 : Ext [p, l] Hb (upd Hb td (.lst [])) := Ext.weak (.new htd)
        -- for message in ..
        have hmin : ∃ d : Nat, (if (M : Int) < (c : Int) then (M : Int) else (c : Int)) = d ∧ d ≤ M ∧ d ≤ 5 := by
          by_cases hm : (M : Int) < (c : Int)
          · rw [if_pos hm]; exact ⟨M, rfl, Nat.le_refl _, hM⟩
          · rw [if_neg hm]; exact ⟨c, rfl, by omega, hc5⟩
        obtain ⟨d, hd, hdM, hd5⟩ := hmin
        refine ⟨_, rfl, _, rfl, _, rfl, _, _, rfl, p, l, d, by rw [hd]; rfl, P4.put tdp tdl, by omega, fun ms t H6 m1 m2 m3 ht tfree P6 e6' => ?_⟩
        have b1 := b0.trans e6'
        have ttd : t ≠ td := fun z => by rw [z, upd_same] at tfree; cases tfree
        obtain ⟨ttp, ttl⟩ := (P4.put (o := .lst []) tdp tdl).off tfree
        have htd6 : H6 td = some (.lst []) := e6' _ _ (off2 tdp tdl) upd_same
        refine ⟨t, rfl, ⟨_, .of ht⟩, for_list (K := K) (a := t) (xs := ms.map nV) (fun k σ H' => ∃ (ps : List Addr) (tl : State) (y9 y10 : Option V), σ = [some (.ref p), some (.int S), some (.int M), some (.int n), some (.int way), some (.ref mv), some (.int i), some (.int c), some (.ref td), y9, y10, y11] ∧
          H' td = some (.lst (ps.map V.ref)) ∧ Paired (MvV K H') ps tl ∧ tl.map (·.1) = ms.take k ∧ (∀ z ∈ tl, z.2 < n) ∧ H' t = some (.lst (ms.map nV)) ∧ PoolAt H' p l ∧ Ext [p, l] Hb H')
          ⟨[], [], _, _, rfl, htd6, .nil, by simp, (fun z hz => nomatch hz), ht, P6, b1⟩ (fun k σ H' _ ⟨_, _, _, _, _, _, _, _, _, h, _⟩ => .of h) ?_ ?_⟩
        · rintro k v σ H' hv ⟨ps, tl, y9, y10, rfl, htd', hps, hmap, hto, ht', P', e8⟩
          obtain ⟨m, hm, rfl⟩ := map_at hv
          have ntd : td ∉ [p, l] := off2 tdp tdl
          have nt : t ∉ [p, l] := off2 ttp ttl
          refine ⟨_, rfl, _, rfl, p, l, _, rfl, P', by omega, by omega, fun t0 H7 t00 t01 P7 e7 => ?_⟩
          refine ⟨fun σ H8 => ∃ u : Nat, u < n ∧ σ = [some (.ref p), some (.int S), some (.int M), some (.int n), some (.int way), some (.ref mv), some (.int i), some (.int c), some (.ref td), some (nV m), some (.int u), y11] ∧ PoolAt H8 p l ∧ Ext [p, l] H7 H8, ?_, ?_⟩
          · have stay : ∃ u : Nat, u < n ∧ ([some (.ref p), some (.int S), some (.int M), some (.int n), some (.int way), some (.ref mv), some (.int i), some (.int c), some (.ref td), some (nV m), some (.int t0), y11] : L2.St) = [some (.ref p), some (.int S), some (.int M), some (.int n), some (.int way), some (.ref mv), some (.int i), some (.int c), some (.ref td), some (nV m), some (.int u), y11] ∧ PoolAt H7 p l ∧ Ext [p, l] H7 H7 :=
              ⟨t0.toNat, by omega, by rw [Int.toNat_of_nonneg t00], P7, .refl⟩
            refine ⟨_, rfl, _, _, rfl, rfl, _, rfl, ite2 (fun z => ?_) (fun z => iteF stay)⟩
            refine ⟨_, rfl, _, rfl, _, _, rfl, rfl, _, _, rfl, rfl, _, rfl, ite2 (fun z2 => ?_) (fun z2 => stay)⟩
            have z2 := of_decide_eq_true z2
            refine ⟨_, rfl, _, _, rfl, rfl, _, rfl, _, rfl, _, _, rfl, rfl, _, rfl, _, _, rfl, rfl, p, l, _, rfl, P7, by omega, by omega, fun r8 H8 r80 r81 P8 e8 => ⟨_, _, rfl, rfl, ?_⟩⟩
            have eu : (i : Int) + 1 + r8 = ((i + 1 + r8.toNat : Nat) : Int) := by omega
            exact ⟨i + 1 + r8.toNat, by omega, congrArg (fun z : Int => ([some (.ref p), some (.int S), some (.int M), some (.int n), some (.int way), some (.ref mv), some (.int i), some (.int c), some (.ref td), some (nV m), some (.int z), y11] : L2.St)) eu, P8, e8⟩
          · rintro σ H8 ⟨u, hu, rfl, P8, e9⟩
            have e10 := e7.trans e9
            have htd8 := e10 _ _ ntd htd'
            have ht8 := e10 _ _ nt ht'
            have hps8 : Paired (MvV K H8) ps tl := Paired.imp hps fun _ _ z => e10.tup P'.lsts z
            refine ⟨_, rfl, .inl ⟨rfl, _, .of htd8⟩, _, rfl, _, rfl, (by show 2 ≤ sizeLine; decide), fun nt' hnt => ?_⟩
            have e11 : Ext [] H8 (upd H8 nt' (.tup [nV m, .int u])) := .new hnt
            have htd9 := e11.at htd8 (by simp)
            obtain ⟨ntp, ntl⟩ := P8.off hnt
            have tll : tl.length ≤ 6 := by
              have := congrArg List.length hmap
              rw [List.length_map, List.length_take] at this
              omega
            refine ⟨td, _, _, rfl, rfl, htd9, by rw [List.length_map, Paired.len hps]; exact small1000 (by omega), ps ++ [nt'], tl ++ [(m, u)], _, _, rfl, by rw [upd_same, List.map_append]; rfl, ?_, ?_, fun z hz => ?_, ?_, ?_, ?_⟩
            · refine Paired.snoc ?_ (Paired.imp hps8 fun _ _ z => (z.ext0 e11).put htd9)
              exact MvV.put (m := (m, u)) (.of upd_same) htd9
            · rw [List.take_add_one, hm, List.map_append, hmap]
              rfl
            · rcases List.mem_append.mp hz with hz | hz
              · exact hto z hz
              · obtain rfl := List.mem_singleton.mp hz
                exact hu
            · rw [upd_ne ttd]
              exact e11.at ht8 (by simp)
            · exact (P8.put ntp ntl).put tdp tdl
            · exact ((e8.trans e10).trans e11.weak).put' htd
        · rintro σ H7 ⟨ps, tl, y9, y10, rfl, htd7, hps, hmap, hto, ht7, P7, e7⟩
          rw [List.length_map, List.take_length] at hmap
          have tll : tl.length = d := by
            have := congrArg List.length hmap
            rw [List.length_map] at this
            omega
          have sd : StD n M tl := ⟨by omega, by rw [hmap]; exact m1, fun z hz => m3 _ (by rw [← hmap]; exact List.mem_map.mpr ⟨z, hz, rfl⟩), hto⟩
          refine ⟨fun σ H8 => ∃ (ps : List Addr) (tl : State) (y9 y10 y11 : Option V), σ = [some (.ref p), some (.int S), some (.int M), some (.int n), some (.int way), some (.ref mv), some (.int i), some (.int c), some (.ref td), y9, y10, y11] ∧
            H8 td = some (.lst (ps.map V.ref)) ∧ Paired (MvV K H8) ps tl ∧ StD n M tl ∧ PoolAt H8 p l ∧ Ext [p, l] Hb H8, ?_, ?_⟩
          · refine ⟨_, rfl, _, _, rfl, rfl, _, rfl, ite2 (fun z => ?_) (fun z => iteF ⟨ps, tl, _, _, _, rfl, htd7, hps, sd, P7, e7⟩)⟩
            refine ⟨_, rfl, Nat.zero_le _, fun x hx => ?_⟩
            have e8 : Ext [] H7 (upd H7 x (.lst [])) := .new hx
            have htd8 := e8.at htd7 (by simp)
            have hps8 : Paired (MvV K (upd H7 x (.lst []))) ps tl := Paired.imp hps fun _ _ z => z.ext0 e8
            have P8 := P7.ext0 e8
            refine ⟨_, _, .lst (.of htd8) (dp_mvs hps8), .lst (.of upd_same) .nil, shaped_mvs _, by decide, _, rfl, ?_⟩
            rw [eqv_mvs_nil]
            by_cases ee : tl = []
            · rw [decide_eq_true ee]
              exact iteF ⟨ps, tl, _, _, _, rfl, htd8, hps8, sd, P8, e7.trans e8.weak⟩
            · rw [decide_eq_false ee]
              have plen := Paired.len hps
              have tpos : 0 < tl.length := List.length_pos_iff.mpr ee
              refine iteT ⟨_, rfl, _, rfl, td, _, rfl, .inl (.of htd8), p, l, _, rfl, P8, by rw [List.length_map]; omega, by rw [List.length_map]; omega, fun k H9 k0 k1 P9 e9 => ?_⟩
              rw [List.length_map] at k1
              obtain ⟨k, rfl⟩ : ∃ j : Nat, k = (j : Int) := ⟨k.toNat, by omega⟩
              have hk : k < tl.length := by omega
              have hq : tl[k]? = some tl[k] := List.getElem?_eq_getElem hk
              generalize tl[k] = qq at hq
              have htd9 := e9 _ _ (off2 tdp tdl) htd8
              have hps9 : Paired (MvV K H9) ps tl := Paired.imp hps8 fun _ _ z => e9.tup P8.lsts z
              obtain ⟨a, ha, haq⟩ := Paired.get hps9 hq
              refine ⟨_, rfl, _, rfl, td, _, _, _, rfl, rfl, .of htd9, atI_nat (at_map ha), a, _, _, _, rfl, rfl, haq, atI_nat (j := 0) rfl, ?_⟩
              refine ⟨fun v H' => H' = H9 ∧ ∃ u : Nat, u < n ∧ v = .int u, ?_, ?_⟩
              · refine ⟨_, rfl, _, _, rfl, rfl, _, rfl, ite2 (fun z => ?_) (fun z => ?_)⟩
                · refine ⟨_, rfl, _, _, rfl, rfl, .inl ⟨_, rfl, _, rfl, _, _, rfl, rfl, (by show (0 : Int) < n; omega), rfl, (((i : Int) + 1) % n).toNat, ?_, ?_⟩⟩
                  · have := Int.emod_lt_of_pos ((i : Int) + 1) (show (0 : Int) < n by omega)
                    have := Int.emod_nonneg ((i : Int) + 1) (show (n : Int) ≠ 0 by omega)
                    omega
                  · show V.int (((i : Int) + 1) % n) = _
                    rw [Int.toNat_of_nonneg (Int.emod_nonneg _ (by omega))]
                · refine ⟨_, rfl, _, _, rfl, rfl, _, rfl, _, _, rfl, rfl, _, _, rfl, rfl, ?_⟩
                  by_cases hm : (n : Int) - 1 < (i : Int) + 1
                  · rw [if_pos hm]
                    exact ⟨n - 1, by omega, congrArg V.int (by omega)⟩
                  · rw [if_neg hm]
                    exact ⟨i + 1, by omega, rfl⟩
              · rintro v H' ⟨rfl, u, hu, rfl⟩
                refine ⟨(by show 2 ≤ sizeLine; decide), fun nt hnt => ?_⟩
                have e10 : Ext [] H' (upd H' nt (.tup [.int qq.1, .int u])) := .new hnt
                have htd10 := e10.at htd9 (by simp)
                obtain ⟨ntp, ntl⟩ := P9.off hnt
                refine ⟨_, rfl, _, rfl, td, _, _, k, rfl, rfl, htd10, ixNat (by rw [List.length_map]; omega), ps.set k nt, tl.set k (qq.1, u), _, _, _, rfl, ?_, ?_, sd.set hq hu, (P9.put ntp ntl).put tdp tdl, ((((e7.trans e8.weak).trans e9).trans e10.weak)).put' htd⟩
                · rw [upd_same, List.map_set]
                · refine Paired.set ?_ k (Paired.imp hps9 fun _ _ z => (z.ext0 e10).put htd10)
                  exact MvV.put (m := (qq.1, u)) (.of upd_same) htd10
          · rintro σ H8 ⟨ps, tl, y9, y10, y11, rfl, htd8, hps8, sd8, P8, e8⟩
            have hmv8 := e8 _ _ (off2 mp ml) hv4
            have hpd8 : Paired (LsN K H8 [p, l, mv]) vs b := Paired.imp hpd4 fun _ _ z => z.ext e8 (by simp) P4.lsts
            have l3 : Lsts [mv] H8 := one_lst hmv8
            refine ⟨_, rfl, .inl ⟨rfl, _, .of hmv8⟩, _, rfl, mv, _, _, rfl, rfl, hmv8, by rw [Paired.len hpd8]; exact small1000 (by omega), vs ++ [.ref td], b ++ [tl], _, _, _, _, _, _, rfl, by rw [List.length_append, hbl]; rfl, upd_same, ?_, fun s hs => ?_, P8.put mp ml, (e6.trans e8).put' fmv⟩
            · refine Paired.snoc ⟨td, ps, rfl, ?_, by rw [upd_ne tdmv]; exact htd8, Paired.imp hps8 fun _ _ z => z.put hmv8⟩ (Paired.imp hpd8 fun _ _ z => z.ext (Y := [mv]) (.wr (by simp)) (by simp) l3)
              simp [tdp, tdl, tdmv]
            · rcases List.mem_append.mp hs with hs | hs
              · exact hst s hs
              · obtain rfl := List.mem_singleton.mp hs
                exact sd8
    · rintro σ H' ⟨vs, b, y6, y7, y8, y9, y10, y11, rfl, hbl, hv, hpd, hst, P', e'⟩
      rw [Int.toNat_natCast] at hbl
      have hlb : LbV K H' (.ref mv) b := ⟨mv, vs, rfl, hv, Paired.imp hpd fun _ _ z => z.ls⟩
      have sd : ∀ s, StD n M (mvs b s) := fun s => by
        by_cases hs : s < b.length
        · exact hst _ (mvs_mem hs)
        · rw [mvs_out (by omega)]
          exact ⟨Nat.zero_le _, .nil, (fun z hz => nomatch hz), fun z hz => nomatch hz⟩
      refine ⟨_, rfl, .ref mv, b, rfl, hlb, by omega, by omega, fun s => ⟨Nat.le_trans (sd s).few (by omega), fun z hz => by rw [hbl]; exact (sd s).to z hz⟩, fun F v H3 mt hbk e3 => ?_⟩
      have ok := mt.okB (by omega) fun s hs => ⟨Nat.le_trans (sd s).few hM, (sd s).rise, (sd s).msg⟩
      refine q _ v _ ok (by rw [rename_len]; have := nodup_le mt.nd mt.lt; omega) (fun s hs => ?_) hbk (P'.ext0 e3) (e'.trans e3.weak)
      obtain ⟨x, _, rfl⟩ := List.mem_map.mp hs
      rw [List.length_map]
      exact (sd x).few
end
end Nv
set_option Elab.async false
set_option linter.all false
set_option maxRecDepth 100000
namespace Nv
open PySem PySem.Spec PyProof.Rows L2
section
variable {P : Program} {w : World} {K : PySem.W.Frag} {mg : Str → Option Value} {base : Heap}
/-! ### the program: books held -/
theorem notF {c : Bool} {A B : Prop} (h : c = true) (hb : B) : if (!c) = true then A else B := by
  rw [h]
  exact iteF hb
theorem sc_has_state_form : FnScope ["thing", "many", "last", "pair", "message", "to"] ["thing", "many"] (defScope s_has_state_form) := ⟨rfl, rfl, rfl, by decide +kernel, rfl, by decide +kernel, by decide +kernel⟩
def sp_has_state_form (K : PySem.W.Frag) : Sp := fun vs H Q _ => ∃ (v : V) (s : State) (n : Nat), vs = [v, .int n] ∧ StV K H v s ∧ StOk n s ∧ Q (.bl true) H
theorem ok_has_state_form (T : Tx K mg) : FnOk P w K mg base CX0 3 T.has_state_form.f T.has_state_form.fd ["thing", "many"] (sp_has_state_form K) := by
  refine T.has_state_form.F.ok sc_has_state_form (fun vs H Q E h => ?_) (fun cdv A outer s H vs Q E hr h => ?_)
  · obtain ⟨v, s, n, rfl, _⟩ := h; rfl
  · obtain ⟨v, st, n, rfl, ⟨a, ps, rfl, ha, hps⟩, ok, q⟩ := h
    have plen := Paired.len hps
    refine ⟨_, (pss_cons (ps_if (pt_not (pt_val (pe_call (ok_tuple_within T) (hr.mono (by decide)) (by rfl) T.tuple_within.g T.tuple_within.F.kp T.tuple_within.b .nil pass0 (pa_cons (pv 0) (pa_cons pe_int (pa_cons (pe_glob (v := .int 5) (by rfl) T.c_MOST_MESSAGES.choose_spec ⟨_, rfl⟩) pa_nil))))))
        (pss_one (ps_ret pe_bl))
        pss_nil)
      (pss_cons (ps_set (i := 2) sc_has_state_form.nd rfl (.inl rfl) (pe_un un_neg pe_int))
      (pss_cons (ps_for PassesOwn.never rfl (pi_tup (pv 0)) (pg_name (i := 3) sc_has_state_form.nd rfl (.inl rfl))
        (pss_cons (ps_if (pt_not (pt_val (pe_call (ok_tuple_within T) (hr.mono (by decide)) (by rfl) T.tuple_within.g T.tuple_within.F.kp T.tuple_within.b .nil pass0 (pa_cons (pv 3) (pa_cons pe_int (pa_cons pe_int pa_nil))))))
          (pss_one (ps_ret pe_bl))
          pss_nil)
        (pss_cons (ps_asg (pv 3) (pg_tup rfl (pgs_cons (pg_name (i := 4) sc_has_state_form.nd rfl (.inl rfl)) (pgs_cons (pg_name (i := 5) sc_has_state_form.nd rfl (.inl rfl)) pgs_nil))))
        (pss_cons (ps_if (PW.pt (pw_or (pt_not (pt_val (pe_call (ok_whole_within T) (hr.mono (by decide)) (by rfl) T.whole_within.g T.whole_within.F.kp T.whole_within.b .nil pass0 (pa_cons (pv 4) (pa_cons (pe_op op_add (pv 2) pe_int) (pa_cons (pe_glob (v := .int 99) (by rfl) T.c_GREATEST_MESSAGE.choose_spec ⟨_, rfl⟩) pa_nil)))))) (pw_or1 (pt_not (pt_val (pe_call (ok_whole_within T) (hr.mono (by decide)) (by rfl) T.whole_within.g T.whole_within.F.kp T.whole_within.b .nil pass0 (pa_cons (pv 5) (pa_cons pe_int (pa_cons (pe_op op_sub (pv 1) pe_int) pa_nil)))))))))
          (pss_one (ps_ret pe_bl))
          pss_nil)
        (pss_one (ps_set (i := 2) sc_has_state_form.nd rfl (.inl rfl) (pv 4)))))))
      (pss_one (ps_ret pe_bl))))), ?_⟩
    refine ⟨_, rfl, a, _, 0, 5, rfl, ha.sq, SqT.ty ha.sq, _, rfl, notF (decide_eq_true ⟨by omega, ?_⟩) ?_⟩
    · rw [List.length_map, plen]
      have := ok.few
      omega
    refine ⟨1, rfl, _, rfl, a, rfl, ⟨_, ha.sq⟩, for_tup (K := K) (a := a) (xs := ps.map V.ref) (fun k σ H' => H' = H ∧ ∃ (z : Int) (y3 y4 y5 : Option V), σ = [some (.ref a), some (.int n), some (.int z), y3, y4, y5] ∧ ∀ j q, k ≤ j → st[j]? = some q → z < (q.1 : Int))
      ⟨rfl, -1, _, _, _, rfl, fun j q _ _ => by omega⟩ (fun k σ H' _ ⟨e, _⟩ => by rw [e]; exact ha.sq) ?_ ?_⟩
    · rintro k v σ H' hv ⟨rfl, z, y3, y4, y5, rfl, hz⟩
      obtain ⟨c, hc, rfl⟩ := map_at hv
      obtain ⟨p, hp, hcp⟩ := Paired.get' hps hc
      have hm := List.mem_of_getElem? hp
      refine ⟨_, rfl, c, _, 2, 2, rfl, hcp, SqT.ty hcp, _, rfl, notF (by show decide ((2 : Int) ≤ 2 ∧ (2 : Int) ≤ 2) = true; decide) ?_⟩
      refine ⟨_, rfl, c, _, rfl, hcp, rfl, _, _, rfl, _, _, rfl, rfl, ?_⟩
      have b1 := hz k p (Nat.le_refl _) hp
      have b2 := ok.msg p hm
      have b3 := ok.to p hm
      refine ⟨_, rfl, _, rfl, _, _, rfl, rfl, _, _, _, rfl, _, rfl, notF (decide_eq_true ⟨by omega, by omega⟩) ?_⟩
      refine ⟨_, rfl, _, rfl, _, _, rfl, rfl, _, _, _, rfl, _, rfl, notF (decide_eq_true ⟨by omega, by omega⟩) ?_⟩
      refine ⟨_, rfl, rfl, _, _, _, _, rfl, fun j q hj hq => ?_⟩
      obtain ⟨hk, ek⟩ := List.getElem?_eq_some_iff.mp hp
      obtain ⟨hj2, ej⟩ := List.getElem?_eq_some_iff.mp hq
      have := List.pairwise_iff_getElem.mp ok.rise k j (by rw [List.length_map]; exact hk) (by rw [List.length_map]; exact hj2) (by omega)
      rw [List.getElem_map, List.getElem_map, ek, ej] at this
      omega
    · rintro σ H' ⟨rfl, z, y3, y4, y5, rfl, hz⟩
      exact q
theorem sc_check_form : FnScope ["thing", "state"] ["thing"] (defScope s_check_form) := ⟨rfl, rfl, rfl, by decide +kernel, rfl, by decide +kernel, by decide +kernel⟩
def sp_check_form (K : PySem.W.Frag) : Sp := fun vs H Q _ => ∃ (v : V) (b : Book), vs = [v] ∧ BkV K H v b ∧ FormB b ∧ Q .non H
theorem ok_check_form (T : Tx K mg) : FnOk P w K mg base CX0 4 T.check_form.f T.check_form.fd ["thing"] (sp_check_form K) := by
  refine T.check_form.F.ok sc_check_form (fun vs H Q E h => ?_) (fun cdv A outer s H vs Q E hr h => ?_)
  · obtain ⟨v, b, rfl, _⟩ := h; rfl
  · obtain ⟨v, b, rfl, ⟨a, ls, rfl, ha, hls⟩, ok, q⟩ := h
    have llen := Paired.len hls
    refine ⟨_, (pss_cons (ps_if (pt_not (pt_val (pe_call (ok_tuple_within T) (hr.mono (by decide)) (by rfl) T.tuple_within.g T.tuple_within.F.kp T.tuple_within.b .nil pass0 (pa_cons (pv 0) (pa_cons pe_int (pa_cons (pe_glob (v := .int 8) (by rfl) T.c_MOST_STATES.choose_spec ⟨_, rfl⟩) pa_nil))))))
        (pss_one ps_never)
        pss_nil)
      (pss_one (ps_for PassesOwn.never rfl (pi_range1 (by rfl) T.n_range (pa_cons (pe_callB call_len_seq (by rfl) T.n_len PySem.boot_len (pa_cons (pv 0) pa_nil)) pa_nil)) (pg_name (i := 1) sc_check_form.nd rfl (.inl rfl))
        (pss_one (ps_if (pt_not (pt_val (pe_call (ok_has_state_form T) (hr.mono (by decide)) (by rfl) T.has_state_form.g T.has_state_form.F.kp T.has_state_form.b .nil pass0 (pa_cons (pe_ix ix_tup (pv 0) (pv 1) (fun _ _ => rfl)) (pa_cons (pe_callB call_len_seq (by rfl) T.n_len PySem.boot_len (pa_cons (pv 0) pa_nil)) pa_nil)))))
          (pss_one ps_never)
          pss_nil))))), ?_⟩
    refine ⟨_, rfl, a, _, 1, 8, rfl, ha, SqT.ty ha, _, rfl, notF (decide_eq_true ?_) ?_⟩
    · have h1 := ok.one
      have h2 := ok.eight
      rw [llen]
      exact ⟨by omega, by omega⟩
    have h2 := ok.eight
    refine ⟨_, rfl, a, _, rfl, .inr ha, _, rfl, by omega, by omega, for_range (lo := 0) (n := _) (fun k σ H' => H' = H ∧ ∃ y : Option V, σ = [some (.ref a), y]) ⟨rfl, _, rfl⟩ ?_ ?_⟩
    · rintro k σ H' hk ⟨rfl, y, rfl⟩
      simp only [Int.zero_add]
      rw [Int.toNat_natCast] at hk
      obtain ⟨u, hu, hst⟩ := Paired.get hls (mvs_lt (b := b) (s := k) (by omega))
      refine ⟨_, rfl, _, rfl, a, _, _, _, rfl, rfl, ha, atI_nat hu, _, rfl, a, _, rfl, .inr ha, u, _, b.length, by rw [llen]; rfl, hst, ok.ok (by omega), _, rfl, notF rfl ⟨rfl, _, rfl⟩⟩
    · rintro σ H' ⟨rfl, y, rfl⟩
      exact q
theorem sc_first_rows : FnScope ["states", "start", "rows", "order", "done", "state", "message", "to"] ["states", "start"] (defScope s_first_rows) := ⟨rfl, rfl, rfl, by decide +kernel, rfl, by decide +kernel, by decide +kernel⟩
def sp_first_rows (K : PySem.W.Frag) : Sp := fun vs H Q _ => ∃ (v : V) (b : Book), vs = [v, .int 0] ∧ BkW K H v b ∧ FormB b ∧ ∀ (F : List Nat) (kvs : List (Key × V)) (d : Addr) (H' : Hp), Met b F → kvs.map (·.1) = F.map kN → H' d = some (.dK kvs) → Ext [] H H' → Q (.ref d) H'
theorem ok_first_rows (T : Tx K mg) : FnOk P w K mg base CX0 1 T.first_rows.f T.first_rows.fd ["states", "start"] (sp_first_rows K) := by
  refine T.first_rows.F.ok sc_first_rows (fun vs H Q E h => ?_) (fun cdv A outer s H vs Q E hr h => ?_)
  · obtain ⟨v, b, rfl, _⟩ := h; rfl
  · obtain ⟨v, b, rfl, ⟨a, ls, rfl, ha, hls⟩, ok, q⟩ := h
    have llen := Paired.len hls
    have h8 := ok.eight
    refine ⟨_, (pss_cons (ps_set (i := 2) sc_first_rows.nd rfl (.inl rfl) (pe_disp (pps_cons (pv 1) (pe_tup pa_nil) pps_nil) (by rfl) (by rfl) (fun z => by cases z) (by decide)))
      (pss_cons (ps_set (i := 3) sc_first_rows.nd rfl (.inl rfl) (pe_lst (pa_cons (pv 1) pa_nil)))
      (pss_cons (ps_set (i := 4) sc_first_rows.nd rfl (.inl rfl) pe_int)
      (pss_cons (ps_while PassesOwn.never (pt_cmpR op_lt (pv 4) (pe_callB call_len_seq (by rfl) T.n_len PySem.boot_len (pa_cons (pv 3) pa_nil)) (nomark _))
        (pss_cons (ps_set (i := 5) sc_first_rows.nd rfl (.inl rfl) (pe_ix ix_list (pv 3) (pv 4) (fun _ _ => rfl)))
        (pss_cons (ps_aug (i := 4) sc_first_rows.nd rfl (.inl rfl) pe_int ip_add)
        (pss_one (ps_for PassesOwn.never rfl (pi_tup (pe_ix ix_tup (pv 0) (pv 5) (fun _ _ => rfl))) (pg_tup rfl (pgs_cons (pg_name (i := 6) sc_first_rows.nd rfl (.inl rfl)) (pgs_cons (pg_name (i := 7) sc_first_rows.nd rfl (.inl rfl)) pgs_nil)))
          (pss_one (ps_if (pt_cmp (pc_dnotin (hu_of hr) (pv 7) (pv 2)))
            (pss_cons (ps_dput (hu_of hr) (pv 2) (pv 7) (pe_op op_catA (pe_dget (hu_of hr) (pv 2) (pv 5) (fun _ _ => rfl)) (pe_tup (pa_cons (pv 6) pa_nil))) rfl)
            (pss_one (ps_expr (pe_bm PySem.F.plainAttrs_list PySem.F.slot_list_append PySem.F.type_list_append mt_append (pv 3) (pa_cons (pv 7) pa_nil)))))
            pss_nil)))))))
      (pss_one (ps_ret (pv 2))))))), ?_⟩
    -- rows = {0: ()}
    refine fun d hd => ⟨_, rfl, Nat.zero_le _, fun t ht => ?_⟩
    have e1 : Ext [] H (upd H d (.dK [])) := .new hd
    have e2 := e1.trans (Ext.new (L := []) (o := .tup []) ht)
    have dt : d ≠ t := fun z => by rw [← z, upd_same] at ht; cases ht
    refine ⟨by rw [upd_ne dt, upd_same], [(kN 0, .ref t)], rfl, (by show 1 ≤ 15; decide), ?_⟩
    have e3 := e2.put (o := .dK (mergeK [] [(kN 0, .ref t)])) hd
    have hd3 : upd (upd (upd H d (.dK [])) t (.tup [])) d (.dK (mergeK [] [(kN 0, .ref t)])) d = some (.dK [(kN 0, .ref t)]) := upd_same
    have ht3 : upd (upd (upd H d (.dK [])) t (.tup [])) d (.dK (mergeK [] [(kN 0, .ref t)])) t = some (.tup []) := by rw [upd_ne dt.symm, upd_same]
    generalize upd (upd (upd H d (.dK [])) t (.tup [])) d (.dK (mergeK [] [(kN 0, .ref t)])) = H3 at *
    -- order = [0]
    refine ⟨_, rfl, (by show 1 ≤ sizeLine; decide), fun o ho => ?_⟩
    have ho0 : H o = none := e3.free ho
    have od : d ≠ o := ne_of_none hd3 ho
    have e4 := e3.put2 (o := .lst [.int 0]) ho
    -- the loop
    let Row : Hp → Nat → V → Prop := fun H' m v => ∃ (x : Addr) (xs : List V), v = .ref x ∧ SqT K H' x xs ∧ xs.length ≤ m
    refine ⟨fun m σ H' => ∃ (F : List Nat) (kvs : List (Key × V)) (i : Nat) (y4 y5 y6 : Option V), σ = [some (.ref a), some (.int 0), some (.ref d), some (.ref o), some (.int i), y4, y5, y6] ∧ MetI b F i ∧ m = b.length - i ∧ H' o = some (.lst (F.map nV)) ∧ H' d = some (.dK kvs) ∧ kvs.map (·.1) = F.map kN ∧ (∀ e ∈ kvs, Row H' F.length e.2) ∧ Ext [] H H',
      ⟨_, [0], [(kN 0, .ref t)], 0, _, _, _, rfl, .first ok.one, rfl, upd_same, by rw [upd_ne od]; exact hd3, rfl, fun e he => ?_, e4⟩, ?_⟩
    · obtain rfl := List.mem_singleton.mp he
      have ot : t ≠ o := ne_of_none ht3 ho
      exact ⟨t, [], rfl, .of (by rw [upd_ne ot]; exact ht3), Nat.zero_le _⟩
    rintro m σ H' ⟨F, kvs, i, y4, y5, y6, rfl, mi, rfl, hF, hD, hk, hrow, e⟩
    have Fle : F.length ≤ b.length := nodup_le mi.nd mi.lt
    refine ⟨_, rfl, _, rfl, o, _, rfl, .inl (.of hF), _, _, rfl, rfl, _, rfl, ite2 (fun z => ?_) (fun z => ?_)⟩
    · have z := of_decide_eq_true z
      rw [List.length_map] at z
      have hiF : i < F.length := by omega
      have hs : F[i]? = some F[i] := List.getElem?_eq_getElem hiF
      generalize F[i] = x at hs
      have hx : x < b.length := mi.lt x (List.mem_of_getElem? hs)
      obtain ⟨u, hu, c, ps, rfl, hc, hps⟩ := Paired.get hls (mvs_lt hx)
      have plen := Paired.len hps
      refine ⟨fun σ H' => ∃ (F : List Nat) (kvs : List (Key × V)) (y4 y5 y6 : Option V), σ = [some (.ref a), some (.int 0), some (.ref d), some (.ref o), some (.int (i + 1 : Nat)), y4, y5, y6] ∧ MetI b F (i + 1) ∧ H' o = some (.lst (F.map nV)) ∧ H' d = some (.dK kvs) ∧ kvs.map (·.1) = F.map kN ∧ (∀ e ∈ kvs, Row H' F.length e.2) ∧ Ext [] H H', ?_, ?_⟩
      · rintro σ' H' ⟨F, kvs, y4, y5, y6, rfl, mi, r⟩
        exact ⟨b.length - (i + 1), by omega, F, kvs, i + 1, _, _, _, rfl, mi, rfl, r⟩
      refine ⟨_, rfl, _, rfl, o, _, _, _, rfl, rfl, .of hF, atI_nat (at_map hs), ?_⟩
      refine ⟨_, rfl, _, _, rfl, rfl, ?_⟩
      refine ⟨_, rfl, _, rfl, a, _, _, _, rfl, rfl, e.tup Lsts.nil ha, atI_nat hu, c, rfl, ⟨_, (e.tup Lsts.nil hc)⟩, ?_⟩
      refine for_tup (K := K) (a := c) (xs := ps.map V.ref) (fun k σ H' => ∃ (F : List Nat) (kvs : List (Key × V)) (y5 y6 : Option V), σ = [some (.ref a), some (.int 0), some (.ref d), some (.ref o), some (.int ((i : Int) + 1)), some (nV x), y5, y6] ∧ MetW b F i x k ∧ H' o = some (.lst (F.map nV)) ∧ H' d = some (.dK kvs) ∧ kvs.map (·.1) = F.map kN ∧ (∀ e ∈ kvs, Row H' F.length e.2) ∧ Ext [] H H')
        ⟨F, kvs, _, _, rfl, mi.begin hs, hF, hD, hk, hrow, e⟩ (fun k σ H' _ ⟨_, _, _, _, _, _, _, _, _, _, e⟩ => (e.tup Lsts.nil hc)) ?_ ?_
      · rintro k v σ H' hv ⟨F, kvs, y5, y6, rfl, mw, hF, hD, hk, hrow, e⟩
        obtain ⟨g, hg, rfl⟩ := map_at hv
        obtain ⟨p, hp, hcp⟩ := Paired.get' hps hg
        have hcp := hcp.ext0 e
        have Fle : F.length ≤ b.length := nodup_le mw.nd mw.lt
        have pb : p.2 < b.length := ok.to (List.mem_of_getElem? hp)
        refine ⟨g, _, rfl, hcp, rfl, _, _, rfl, _, _, rfl, rfl, ?_⟩
        refine ⟨_, rfl, _, rfl, d, _, rfl, DGet.k (k := kN p.2) hD, _, rfl, ?_⟩
        rw [valV_key hk]
        by_cases hin : p.2 ∈ F
        · rw [decide_eq_true hin]
          exact iteF ⟨F, kvs, _, _, rfl, mw.skip hp hin, hF, hD, hk, hrow, e⟩
        · rw [decide_eq_false hin]
          refine iteT ?_
          -- rows[state] + (message,)
          have xin : x ∈ F := List.mem_of_getElem? mw.here
          have hsome : (valV kvs (kN x)).isSome = true := by rw [valV_key hk]; exact decide_eq_true xin
          obtain ⟨rv, hrv⟩ := Option.isSome_iff_exists.mp hsome
          obtain ⟨r, rs, er, hr1, hr2⟩ := hrow _ (valV_mem hrv)
          have er : rv = .ref r := er
          subst er
          have newk : valV kvs (kN p.2) = none := by
            have := valV_key hk p.2
            rw [decide_eq_false hin] at this
            cases h : valV kvs (kN p.2) with
            | none => rfl
            | some z => rw [h] at this; cases this
          have klen : kvs.length = F.length := by have := congrArg List.length hk; simpa using this
          -- behind the new row: the dict, the list
          have fin : ∀ (nr : Addr) (ys : List V) (H4 : Hp), Ext [] H' H4 → SqT K H4 nr ys → ys.length ≤ F.length + 1 → ∃ H5, DPut H4 d (.int p.2) (.ref nr) H5 ∧
              ∃ q5 : H5 = upd H4 d (.dK (kvs ++ [(kN p.2, .ref nr)])), H5 o = some (.lst (F.map nV)) ∧ H5 d = some (.dK (kvs ++ [(kN p.2, .ref nr)])) ∧ (∀ e ∈ kvs ++ [(kN p.2, .ref nr)], Row H5 (F.length + 1) e.2) ∧ Ext [] H H5 := by
            intro nr ys H4 e4 hn hl
            have hD4 := e4.at hD (by simp)
            have hF4 := e4.at hF (by simp)
            refine ⟨_, DPut.k (k := kN p.2) hD4 (small1000 (by omega)), by rw [putK_new _ newk], ?_⟩
            rw [putK_new _ newk]
            have ee : Ext [d] H4 (upd H4 d (.dK (kvs ++ [(kN p.2, .ref nr)]))) := .wr (by simp)
            refine ⟨by rw [upd_ne od.symm]; exact hF4, upd_same, fun z hz => ?_, (e.trans e4).put hd⟩
            rcases List.mem_append.mp hz with hz | hz
            · obtain ⟨x, xs, h1, h2, h3⟩ := hrow z hz
              exact ⟨x, xs, h1, ee.tup (one_dk hD4) (e4.tup Lsts.nil h2), by omega⟩
            · obtain rfl := List.mem_singleton.mp hz
              exact ⟨nr, ys, rfl, ee.tup (one_dk hD4) hn, hl⟩
          have last : ∀ (nr : Addr) (H5 : Hp), H5 o = some (.lst (F.map nV)) → H5 d = some (.dK (kvs ++ [(kN p.2, .ref nr)])) → (∀ e ∈ kvs ++ [(kN p.2, .ref nr)], Row H5 (F.length + 1) e.2) → Ext [] H H5 →
              ∃ (F' : List Nat) (kvs' : List (Key × V)) (y5 y6 : Option V), [some (.ref a), some (.int 0), some (.ref d), some (.ref o), some (.int ((i : Int) + 1)), some (nV x), some (.int p.1), some (.int p.2)] = [some (.ref a), some (.int 0), some (.ref d), some (.ref o), some (.int ((i : Int) + 1)), some (nV x), y5, y6] ∧
                MetW b F' i x (k + 1) ∧ upd H5 o (.lst (F.map nV ++ [.int p.2])) o = some (.lst (F'.map nV)) ∧ upd H5 o (.lst (F.map nV ++ [.int p.2])) d = some (.dK kvs') ∧ kvs'.map (·.1) = F'.map kN ∧ (∀ e ∈ kvs', Row (upd H5 o (.lst (F.map nV ++ [.int p.2]))) F'.length e.2) ∧ Ext [] H (upd H5 o (.lst (F.map nV ++ [.int p.2]))) := by
            intro nr H5 h1 h2 h3 h4
            refine ⟨F ++ [p.2], kvs ++ [(kN p.2, .ref nr)], _, _, rfl, mw.push hp hin pb, by rw [upd_same, List.map_append]; rfl, by rw [upd_ne od]; exact h2, by rw [List.map_append, List.map_append, hk]; rfl, fun z hz => ?_, h4.put ho0⟩
            obtain ⟨x, xs, g1, g2, g3⟩ := h3 z hz
            exact ⟨x, xs, g1, Ext.tup (L := [o]) (.wr (by simp)) (one_lst h1) g2, by rw [List.length_append]; exact g3⟩
          refine ⟨_, rfl, _, rfl, d, _, rfl, by rw [← hrv]; exact DGet.k (k := kN x) hD, _, rfl, (by show 1 ≤ sizeLine; decide), fun g2 hg2 => ?_⟩
          have e5 : Ext [] H' (upd H' g2 (.tup [.int p.1])) := .new hg2
          refine ⟨r, g2, rs, _, rfl, rfl, e5.tup Lsts.nil hr1, .of upd_same, ?_, fun h0 => ?_, fun _ h0 => (by cases h0), fun _ _ g3 hg3 => ?_⟩
          · show rs.length + 1 ≤ sizeLine
            exact Nat.le_of_lt (small1000 (by omega))
          · obtain ⟨H5, dp, _, f1, f2, f3, f4⟩ := fin g2 [.int p.1] _ e5 (.of upd_same) (by simp)
            refine ⟨_, rfl, _, rfl, d, H5, rfl, dp, ?_⟩
            exact ⟨_, rfl, .inl ⟨rfl, _, .of f1⟩, _, rfl, o, _, _, rfl, rfl, f1, by rw [List.length_map]; exact small1000 (by omega), last g2 H5 f1 f2 f3 f4⟩
          · obtain ⟨H5, dp, _, f1, f2, f3, f4⟩ := fin g3 (rs ++ [.int p.1]) _ (e5.put2 hg3) (.of upd_same) (by rw [List.length_append]; show rs.length + 1 ≤ _; omega)
            refine ⟨_, rfl, _, rfl, d, H5, rfl, dp, ?_⟩
            exact ⟨_, rfl, .inl ⟨rfl, _, .of f1⟩, _, rfl, o, _, _, rfl, rfl, f1, by rw [List.length_map]; exact small1000 (by omega), last g3 H5 f1 f2 f3 f4⟩
      · rintro σ H' ⟨F, kvs, y5, y6, rfl, mw, hF, hD, hk, hrow, e⟩
        exact ⟨F, kvs, _, _, _, by rw [Int.natCast_add]; rfl, mw.done (by rw [List.length_map, plen]; exact Nat.le_refl _), hF, hD, hk, hrow, e⟩
    · have z : ¬ ((i : Int) < ((F.map nV).length : Int)) := fun y => z (decide_eq_true y)
      rw [List.length_map] at z
      have := mi.le
      exact ⟨_, rfl, q F kvs d H' (mi.met (.inl (by omega))) hk hD e⟩
theorem Met.all {b : Book} {F : List Nat} (m : Met b F) {s : Nat} (h : Rch b s) : s ∈ F := by
  induction h with
  | zero => exact List.mem_of_getElem? m.zero
  | step _ hp ih => exact m.cl _ ih _ hp
theorem sc_made_book : FnScope ["thing", "reached", "state"] ["thing"] (defScope s_made_book) := ⟨rfl, rfl, rfl, by decide +kernel, rfl, by decide +kernel, by decide +kernel⟩
def sp_made_book (K : PySem.W.Frag) : Sp := fun vs H Q _ => ∃ (v : V) (b : Book), vs = [v] ∧ BkV K H v b ∧ OkB b ∧ ∀ H', Ext [] H H' → Q v H'
theorem ok_made_book (T : Tx K mg) : FnOk P w K mg base CX0 5 T.made_book.f T.made_book.fd ["thing"] (sp_made_book K) := by
  refine T.made_book.F.ok sc_made_book (fun vs H Q E h => ?_) (fun cdv A outer s H vs Q E hr h => ?_)
  · obtain ⟨v, b, rfl, _⟩ := h; rfl
  · obtain ⟨v, b, rfl, hb, ok, q⟩ := h
    refine ⟨_, (pss_cons (ps_expr (pe_call (ok_check_form T) (hr.mono (by decide)) (by rfl) T.check_form.g T.check_form.F.kp T.check_form.b .nil pass0 (pa_cons (pv 0) pa_nil)))
      (pss_cons (ps_set (i := 1) sc_made_book.nd rfl (.inl rfl) (pe_call (ok_first_rows T) (hr.mono (by decide)) (by rfl) T.first_rows.g T.first_rows.F.kp T.first_rows.bD.choose_spec.2 T.first_rows.bD.choose_spec.1 pass0 (pa_cons (pv 0) pa_nil)))
      (pss_cons (ps_for PassesOwn.never rfl (pi_range1 (by rfl) T.n_range (pa_cons (pe_callB call_len_seq (by rfl) T.n_len PySem.boot_len (pa_cons (pv 0) pa_nil)) pa_nil)) (pg_name (i := 2) sc_made_book.nd rfl (.inl rfl))
        (pss_one (ps_if (pt_cmp (pc_dnotin (hu_of hr) (pv 2) (pv 1)))
          (pss_one ps_never)
          pss_nil)))
      (pss_one (ps_ret (pv 0)))))), ?_⟩
    refine ⟨_, rfl, v, b, rfl, hb, ok.toFormB, ?_⟩
    refine ⟨_, rfl, v, b, rfl, hb.wk, ok.toFormB, fun F kvs d H' mt hk hd e => ?_⟩
    obtain ⟨a, ls, rfl, ha, hls⟩ := hb
    have llen := Paired.len hls
    have h8 := ok.eight
    refine ⟨_, rfl, a, _, rfl, .inr (e.tup Lsts.nil ha), _, rfl, by omega, by omega, for_range (lo := 0) (n := _) (fun k σ H2 => H2 = H' ∧ ∃ y : Option V, σ = [some (.ref a), some (.ref d), y]) ⟨rfl, _, rfl⟩ ?_ ?_⟩
    · rintro k σ H2 hk' ⟨rfl, y, rfl⟩
      simp only [Int.zero_add]
      rw [Int.toNat_natCast] at hk'
      refine ⟨_, rfl, _, rfl, d, _, rfl, DGet.k (k := kN k) hd, _, rfl, ?_⟩
      rw [valV_key hk, decide_eq_true (mt.all (ok.reach k (by omega)))]
      exact iteF ⟨rfl, _, rfl⟩
    · rintro σ H2 ⟨rfl, y, rfl⟩
      exact ⟨_, rfl, q _ e⟩
end
end Nv
set_option Elab.async false
set_option linter.all false
set_option maxRecDepth 100000
namespace Nv
open PySem PySem.Spec PyProof.Rows L2
/-! ### comprehensions of some forms -/
abbrev LcEnd (g : TG) (tt : TT) (te : TE) (vs : List Nat) (σ : L2.St) (D : Addr) (J : It) (H1 : Hp) (Qd : Hp → Prop) : Prop := ∃ W : Nat → Nat → Hp → Prop, (∃ m, W 0 m (upd H1 D (.lst []))) ∧ ∀ i m H, W i m H →
  (J.stop i H ∧ Qd H) ∨ (J.go i H ∧ ∃ Nx : Hp → Prop, (∀ H', Nx H' → ∃ m', m' < m ∧ W (i + 1) m' H') ∧ ∀ x H', J.yld i H x H' → g x (wipe σ vs) H' fun σ2 H2 => wipe σ2 vs = wipe σ vs ∧ tt σ2 H2 fun b H3 =>
    if b = true then te σ2 H3 fun y H4 => ∃ acc, H4 D = some (.lst acc) ∧ acc.length < sizeLine ∧ Nx (upd H4 D (.lst (acc ++ [y]))) else Nx H3)
theorem filter_take {α : Type} (f : α → Bool) {l : List α} {i : Nat} {x : α} (h : l[i]? = some x) : (l.take (i + 1)).filter f = (l.take i).filter f ++ (if f x = true then [x] else []) := by
  rw [List.take_add_one, h, List.filter_append]
  cases e : f x <;> simp [e]
/-- [x for x in l if test]: l holds numbers -/
theorem filt_list {K : PySem.W.Frag} {a : Addr} {l : List Nat} {j : Nat} {vs : List Nat} {σ : L2.St} {H1 : Hp} {D : Addr} {Qd : Hp → Prop} {tt : TT} (f : Nat → Bool) (hD : H1 D = none) (hl : SqL K H1 a (l.map nV)) (hn : l.length < 1000)
    (hj : ∀ v : V, ((wipe σ vs).set j (some v))[j]? = some (some v)) (hw : ∀ v : V, wipe ((wipe σ vs).set j (some v)) vs = wipe σ vs)
    (ht : ∀ k H', k ∈ l → Ext [] H1 H' → tt ((wipe σ vs).set j (some (nV k))) H' (fun b H3 => b = f k ∧ Ext [] H' H3))
    (hd : ∀ H', H' D = some (.lst ((l.filter f).map nV)) → Ext [] H1 H' → Qd H') : LcEnd (gName j) (tMidT tt) (tVar j) vs σ D (Itl K a) H1 Qd := by
  refine lc_list (K := K) (a := a) (xs := l.map nV) (fun i H' => H' D = some (.lst (((l.take i).filter f).map nV)) ∧ Ext [] H1 H') ⟨upd_same, .new hD⟩ (fun i H' _ ⟨_, e⟩ => e.frz (by simp) hl) ?_ ?_
  · rintro i v H' hv ⟨h1, e⟩
    obtain ⟨k, hk, rfl⟩ := map_at hv
    refine ⟨hw _, _, ht k H' (List.mem_of_getElem? hk) e, ?_⟩
    rintro b H3 ⟨rfl, e3⟩
    have h3 := e3.at h1 (by simp)
    rw [filter_take f hk]
    refine ifB (fun hf => ?_) (fun hf => ?_)
    · refine ⟨_, hj _, _, h3, ?_, ?_, (e.trans e3).put hD⟩
      · rw [List.length_map]
        refine small1000 (Nat.le_trans (List.length_filter_le _ _) ?_)
        rw [List.length_take]
        omega
      · rw [upd_same, hf]
        simp
    · rw [hf]
      simp only [Bool.false_eq_true, if_false, List.append_nil]
      exact ⟨h3, e.trans e3⟩
  · rintro H' ⟨h1, e⟩
    rw [List.length_map, List.take_length] at h1
    exact hd H' h1 e
/-- the same over a tuple -/
theorem filt_tup {K : PySem.W.Frag} {a : Addr} {l : List Nat} {j : Nat} {vs : List Nat} {σ : L2.St} {H1 : Hp} {D : Addr} {Qd : Hp → Prop} {tt : TT} (f : Nat → Bool) (hD : H1 D = none) (hl : SqT K H1 a (l.map nV)) (hn : l.length < 1000)
    (hj : ∀ v : V, ((wipe σ vs).set j (some v))[j]? = some (some v)) (hw : ∀ v : V, wipe ((wipe σ vs).set j (some v)) vs = wipe σ vs)
    (ht : ∀ k H', k ∈ l → Ext [] H1 H' → tt ((wipe σ vs).set j (some (nV k))) H' (fun b H3 => b = f k ∧ Ext [] H' H3))
    (hd : ∀ H', H' D = some (.lst ((l.filter f).map nV)) → Ext [] H1 H' → Qd H') : LcEnd (gName j) (tMidT tt) (tVar j) vs σ D (Itt K a) H1 Qd := by
  refine lc_tup (K := K) (a := a) (xs := l.map nV) (fun i H' => H' D = some (.lst (((l.take i).filter f).map nV)) ∧ Ext [] H1 H') ⟨upd_same, .new hD⟩ (fun i H' _ ⟨_, e⟩ => e.tup Lsts.nil hl) ?_ ?_
  · rintro i v H' hv ⟨h1, e⟩
    obtain ⟨k, hk, rfl⟩ := map_at hv
    refine ⟨hw _, _, ht k H' (List.mem_of_getElem? hk) e, ?_⟩
    rintro b H3 ⟨rfl, e3⟩
    have h3 := e3.at h1 (by simp)
    rw [filter_take f hk]
    refine ifB (fun hf => ?_) (fun hf => ?_)
    · refine ⟨_, hj _, _, h3, ?_, ?_, (e.trans e3).put hD⟩
      · rw [List.length_map]
        refine small1000 (Nat.le_trans (List.length_filter_le _ _) ?_)
        rw [List.length_take]
        omega
      · rw [upd_same, hf]
        simp
    · rw [hf]
      simp only [Bool.false_eq_true, if_false, List.append_nil]
      exact ⟨h3, e.trans e3⟩
  · rintro H' ⟨h1, e⟩
    rw [List.length_map, List.take_length] at h1
    exact hd H' h1 e
/-- [x for x in range(n) if test] -/
theorem filt_range {n : Nat} {j : Nat} {vs : List Nat} {σ : L2.St} {H1 : Hp} {D : Addr} {Qd : Hp → Prop} {tt : TT} (f : Nat → Bool) (hD : H1 D = none) (hn : n < 1000)
    (hj : ∀ v : V, ((wipe σ vs).set j (some v))[j]? = some (some v)) (hw : ∀ v : V, wipe ((wipe σ vs).set j (some v)) vs = wipe σ vs)
    (ht : ∀ k H', k < n → Ext [] H1 H' → tt ((wipe σ vs).set j (some (nV k))) H' (fun b H3 => b = f k ∧ Ext [] H' H3))
    (hd : ∀ H', H' D = some (.lst (((List.range n).filter f).map nV)) → Ext [] H1 H' → Qd H') : LcEnd (gName j) (tMidT tt) (tVar j) vs σ D (Itr 0 n) H1 Qd := by
  refine lc_range (lo := 0) (n := n) (fun i H' => H' D = some (.lst ((((List.range n).take i).filter f).map nV)) ∧ Ext [] H1 H') ⟨upd_same, .new hD⟩ ?_ ?_
  · rintro i H' hi ⟨h1, e⟩
    have hk : (List.range n)[i]? = some i := by rw [List.getElem?_range hi]
    simp only [Int.zero_add]
    refine ⟨hw _, _, ht i H' hi e, ?_⟩
    rintro b H3 ⟨rfl, e3⟩
    have h3 := e3.at h1 (by simp)
    rw [filter_take f hk]
    refine ifB (fun hf => ?_) (fun hf => ?_)
    · refine ⟨_, hj _, _, h3, ?_, ?_, (e.trans e3).put hD⟩
      · rw [List.length_map]
        refine small1000 (Nat.le_trans (List.length_filter_le _ _) ?_)
        rw [List.length_take, List.length_range]
        omega
      · rw [upd_same, hf]
        simp
    · rw [hf]
      simp only [Bool.false_eq_true, if_false, List.append_nil]
      exact ⟨h3, e.trans e3⟩
  · rintro H' ⟨h1, e⟩
    rw [List.take_of_length_le (by simp)] at h1
    exact hd H' h1 e
/-- two clauses: the first over a list -/
theorem lc2_list {K : PySem.W.Frag} {a : Addr} {xs : List V} {g g1 : TG} {tt tt1 : TT} {wi1 : TI} {te : TE} {vs vs1 : List Nat} {σ : L2.St} {H1 : Hp} {D : Addr} {Qd : Hp → Prop} (Pv : Nat → Hp → Prop) (h0 : Pv 0 (upd H1 D (.lst []))) (hl : ∀ i H, i ≤ xs.length → Pv i H → SqL K H a xs)
    (hs : ∀ i x H, xs[i]? = some x → Pv i H → g x (wipe σ vs) H fun σ2 H2 => wipe σ2 vs = wipe σ vs ∧ tt σ2 H2 fun b H3 => if b = true then wi1 σ2 H3 fun J1 H4 => ∃ W1 : Nat → Nat → Hp → Prop, (∃ m, W1 0 m H4) ∧ ∀ j k H, W1 j k H →
      (J1.stop j H ∧ Pv (i + 1) H) ∨ (J1.go j H ∧ ∃ Nx1 : Hp → Prop, (∀ H', Nx1 H' → ∃ k', k' < k ∧ W1 (j + 1) k' H') ∧ ∀ x H', J1.yld j H x H' → g1 x (wipe σ2 vs1) H' fun σ3 H5 => wipe σ3 vs1 = wipe σ2 vs1 ∧ tt1 σ3 H5 fun b H6 =>
        if b = true then te σ3 H6 fun y H7 => ∃ acc, H7 D = some (.lst acc) ∧ acc.length < sizeLine ∧ Nx1 (upd H7 D (.lst (acc ++ [y]))) else Nx1 H6) else Pv (i + 1) H3)
    (hd : ∀ H, Pv xs.length H → Qd H) :
    ∃ W : Nat → Nat → Hp → Prop, (∃ m, W 0 m (upd H1 D (.lst []))) ∧ ∀ i m H, W i m H →
      ((Itl K a).stop i H ∧ Qd H) ∨ ((Itl K a).go i H ∧ ∃ Nx : Hp → Prop, (∀ H', Nx H' → ∃ m', m' < m ∧ W (i + 1) m' H') ∧ ∀ x H', (Itl K a).yld i H x H' → g x (wipe σ vs) H' fun σ2 H2 => wipe σ2 vs = wipe σ vs ∧ tt σ2 H2 fun b H3 =>
        if b = true then wi1 σ2 H3 fun J1 H4 => ∃ W1 : Nat → Nat → Hp → Prop, (∃ m, W1 0 m H4) ∧ ∀ j k H, W1 j k H →
          (J1.stop j H ∧ Nx H) ∨ (J1.go j H ∧ ∃ Nx1 : Hp → Prop, (∀ H', Nx1 H' → ∃ k', k' < k ∧ W1 (j + 1) k' H') ∧ ∀ x H', J1.yld j H x H' → g1 x (wipe σ2 vs1) H' fun σ3 H5 => wipe σ3 vs1 = wipe σ2 vs1 ∧ tt1 σ3 H5 fun b H6 =>
            if b = true then te σ3 H6 fun y H7 => ∃ acc, H7 D = some (.lst acc) ∧ acc.length < sizeLine ∧ Nx1 (upd H7 D (.lst (acc ++ [y]))) else Nx1 H6)
        else Nx H3) := by
  refine ⟨fun i m H => m = xs.length - i ∧ i ≤ xs.length ∧ Pv i H, ⟨xs.length, by simp, Nat.zero_le _, h0⟩, ?_⟩
  rintro i m H ⟨rfl, hi, p⟩
  have q := hl i H hi p
  by_cases lt : i < xs.length
  · refine .inr ⟨⟨xs, xs[i], q, List.getElem?_eq_getElem lt⟩, Pv (i + 1), fun H' p' => ⟨xs.length - (i + 1), by omega, rfl, lt, p'⟩, fun x H' y => ?_⟩
    obtain ⟨rfl, y2⟩ := y
    exact hs i x H' (y2 xs q) p
  · have e : i = xs.length := by omega
    subst e
    exact .inl ⟨⟨xs, q, Nat.le_refl _⟩, hd H p⟩
/-- the second over a tuple -/
theorem lc2_tup {K : PySem.W.Frag} {c : Addr} {ys : List V} {g1 : TG} {tt1 : TT} {te : TE} {vs1 : List Nat} {σ2 : L2.St} {H4 : Hp} {D : Addr} {Nx : Hp → Prop} (Pv : Nat → Hp → Prop) (h0 : Pv 0 H4) (hl : ∀ j H, j ≤ ys.length → Pv j H → SqT K H c ys)
    (hs : ∀ j y H, ys[j]? = some y → Pv j H → g1 y (wipe σ2 vs1) H fun σ3 H5 => wipe σ3 vs1 = wipe σ2 vs1 ∧ tt1 σ3 H5 fun b H6 =>
      if b = true then te σ3 H6 fun y H7 => ∃ acc, H7 D = some (.lst acc) ∧ acc.length < sizeLine ∧ Pv (j + 1) (upd H7 D (.lst (acc ++ [y]))) else Pv (j + 1) H6) (hd : ∀ H, Pv ys.length H → Nx H) :
    ∃ W1 : Nat → Nat → Hp → Prop, (∃ m, W1 0 m H4) ∧ ∀ j k H, W1 j k H →
      ((Itt K c).stop j H ∧ Nx H) ∨ ((Itt K c).go j H ∧ ∃ Nx1 : Hp → Prop, (∀ H', Nx1 H' → ∃ k', k' < k ∧ W1 (j + 1) k' H') ∧ ∀ x H', (Itt K c).yld j H x H' → g1 x (wipe σ2 vs1) H' fun σ3 H5 => wipe σ3 vs1 = wipe σ2 vs1 ∧ tt1 σ3 H5 fun b H6 =>
        if b = true then te σ3 H6 fun y H7 => ∃ acc, H7 D = some (.lst acc) ∧ acc.length < sizeLine ∧ Nx1 (upd H7 D (.lst (acc ++ [y]))) else Nx1 H6) := by
  refine ⟨fun i m H => m = ys.length - i ∧ i ≤ ys.length ∧ Pv i H, ⟨ys.length, by simp, Nat.zero_le _, h0⟩, ?_⟩
  rintro i m H ⟨rfl, hi, p⟩
  have q := hl i H hi p
  by_cases lt : i < ys.length
  · refine .inr ⟨⟨ys, ys[i], q, List.getElem?_eq_getElem lt⟩, Pv (i + 1), fun H' p' => ⟨ys.length - (i + 1), by omega, rfl, lt, p'⟩, fun x H' y => ?_⟩
    obtain ⟨rfl, y2⟩ := y
    exact hs i x H' (y2 ys q) p
  · have e : i = ys.length := by omega
    subst e
    exact .inl ⟨⟨ys, q, Nat.le_refl _⟩, hd H p⟩
end Nv
set_option linter.all false
namespace Nv
/-! ### forks, reach, ways back -/
theorem srt_eq : ∀ {l m : List Nat}, l.Pairwise (· < ·) → m.Pairwise (· < ·) → (∀ k, k ∈ l ↔ k ∈ m) → l = m
  | [], [], _, _, _ => rfl
  | [], b :: m, _, _, h => by have := (h b).mpr (by simp); cases this
  | a :: l, [], _, _, h => by have := (h a).mp (by simp); cases this
  | a :: l, b :: m, h1, h2, h => by
    obtain ⟨a1, a2⟩ := List.pairwise_cons.mp h1
    obtain ⟨b1, b2⟩ := List.pairwise_cons.mp h2
    have e : a = b := by
      have p := (h a).mp (by simp)
      have q := (h b).mpr (by simp)
      rcases List.mem_cons.mp p with p | p
      · exact p
      · rcases List.mem_cons.mp q with q | q
        · exact q.symm
        · have := b1 a p
          have := a1 b q
          omega
    subst e
    rw [srt_eq a2 b2 fun k => ?_]
    constructor
    · intro hk
      rcases List.mem_cons.mp ((h k).mp (List.mem_cons_of_mem _ hk)) with e | e
      · have := a1 k hk; omega
      · exact e
    · intro hk
      rcases List.mem_cons.mp ((h k).mpr (List.mem_cons_of_mem _ hk)) with e | e
      · have := b1 k hk; omega
      · exact e
theorem filt_srt (n : Nat) (f : Nat → Bool) : ((List.range n).filter f).Pairwise (· < ·) := List.Pairwise.sublist List.filter_sublist List.pairwise_lt_range
theorem mem_filt {n : Nat} {f : Nat → Bool} {k : Nat} : k ∈ (List.range n).filter f ↔ k < n ∧ f k = true := by rw [List.mem_filter, List.mem_range]
def forksM (b : Book) : List Nat := (List.range b.length).filter fun s => decide (1 < (mvs b s).length)
/-- one message further -/
def nextB (b : Book) (L : List Nat) (k : Nat) : Bool := decide (k ∈ L) || L.any fun j => (mvs b j).any fun p => p.2 == k
def stepL (b : Book) (L : List Nat) : List Nat := (List.range b.length).filter (nextB b L)
def wiL (b : Book) (s : Nat) : Nat → List Nat
  | 0 => [s]
  | n + 1 => stepL b (wiL b s n)
def reachL (b : Book) (s many : Nat) : List Nat := wiL b s (min many b.length)
def ledL (b : Book) (t many : Nat) : List Nat := if many = 0 then [] else reachL b t (many - 1)
theorem wiL_lt {b : Book} {s : Nat} (hs : s < b.length) : ∀ n, ∀ k ∈ wiL b s n, k < b.length
  | 0, k, hk => by rw [List.mem_singleton.mp hk]; exact hs
  | n + 1, k, hk => (mem_filt.mp hk).1
theorem wiL_srt (b : Book) (s : Nat) : ∀ n, (wiL b s n).Pairwise (· < ·)
  | 0 => by simp [wiL]
  | n + 1 => filt_srt _ _
theorem srt_nodup {l : List Nat} (h : l.Pairwise (· < ·)) : l.Nodup := List.Pairwise.imp (fun h e => by omega) h
theorem wiL_len {b : Book} {s : Nat} (hs : s < b.length) (n : Nat) : (wiL b s n).length ≤ b.length := nodup_le (srt_nodup (wiL_srt b s n)) (wiL_lt hs n)
def waysM (b : Book) (s : Nat) : Nat := ((mvs b s).filter fun p => decide (s ∈ reachL b p.2 b.length)).length
def knotsM (b : Book) : List Nat := (List.range b.length).filter fun s => decide (1 < waysM b s)
/-- a step's list, by what it has -/
theorem step_eq {b : Book} (fb : FormB b) {L ahead ms : List Nat} (hL : ∀ k ∈ L, k < b.length) (ha : ∀ k, k ∈ ahead ↔ ∃ j ∈ L, ∃ p ∈ mvs b j, p.2 = k) (h1 : ms.Pairwise (· < ·)) (h2 : ∀ k, k ∈ ms ↔ k ∈ L ∨ k ∈ ahead) : ms = stepL b L := by
  refine srt_eq h1 (filt_srt _ _) fun k => ?_
  rw [h2, ha]
  unfold stepL
  rw [mem_filt]
  unfold nextB
  rw [Bool.or_eq_true, decide_eq_true_eq, List.any_eq_true]
  constructor
  · rintro (h | ⟨j, hj, p, hp, e⟩)
    · exact ⟨hL k h, .inl h⟩
    · exact ⟨by rw [← e]; exact fb.to hp, .inr ⟨j, hj, by rw [List.any_eq_true]; exact ⟨p, hp, by simp [e]⟩⟩⟩
  · rintro ⟨_, h | ⟨j, hj, h⟩⟩
    · exact .inl h
    · rw [List.any_eq_true] at h
      obtain ⟨p, hp, e⟩ := h
      exact .inr ⟨j, hj, p, hp, by simpa using e⟩
def leadM (b : Book) (W s : Nat) (goals : List Nat) : List Nat := ((mvs b s).filter fun p => (ledL b p.2 (W - 1)).any fun k => decide (k ∈ goals)).map (·.1)
theorem reachL_lt {b : Book} {s m : Nat} (hs : s < b.length) : ∀ k ∈ reachL b s m, k < b.length := wiL_lt hs _
theorem ledL_lt {b : Book} {s m : Nat} (hs : s < b.length) : ∀ k ∈ ledL b s m, k < b.length := by
  unfold ledL
  split
  · intro k hk; cases hk
  · exact reachL_lt hs
/-! ### a dict of unlike keys -/
open L2 in
theorem valV_none_of {kvs : List (Key × V)} {k : Key} (h : k ∉ kvs.map (·.1)) : valV kvs k = none := by
  cases e : valV kvs k with
  | none => rfl
  | some v => exact absurd (List.mem_map.mpr ⟨_, valV_mem e, rfl⟩) h
open L2 in
theorem mergeK_nd : ∀ (more acc : List (Key × V)), ((acc ++ more).map (·.1)).Nodup → mergeK acc more = acc ++ more
  | [], acc, _ => by show acc = acc ++ []; rw [List.append_nil]
  | p :: r, acc, h => by
    have hp : valV acc p.1 = none := valV_none_of fun z => by
      rw [List.map_append, List.map_cons, List.nodup_append] at h
      exact h.2.2 _ z _ (by simp) rfl
    show mergeK (putK acc p.1 p.2) r = _
    rw [putK_new _ hp, mergeK_nd r (acc ++ [(p.1, p.2)]) (by rw [List.append_assoc]; exact h), List.append_assoc]
    rfl
open L2 in
theorem valV_nd : ∀ {kvs : List (Key × V)} {k : Key} {v : V}, (kvs.map (·.1)).Nodup → (k, v) ∈ kvs → valV kvs k = some v
  | [], _, _, _, h => nomatch h
  | p :: r, k, v, nd, h => by
    rw [List.map_cons, List.nodup_cons] at nd
    rcases List.mem_cons.mp h with h | h
    · subst h
      exact valV_pos rfl
    · have ne : ¬ p.1 = k := fun e => nd.1 (by rw [e]; exact List.mem_map.mpr ⟨_, h, rfl⟩)
      rw [valV_neg ne]
      exact valV_nd nd.2 h
/-! ### ranks, round by round -/
def setAll (r : List (Option Int)) (L : List Nat) (x : Int) : List (Option Int) := L.foldl (fun r f => r.set f (some x)) r
theorem setAll_snoc (r : List (Option Int)) (L : List Nat) (f : Nat) (x : Int) : setAll r (L ++ [f]) x = (setAll r L x).set f (some x) := by
  unfold setAll
  rw [List.foldl_append]
  rfl
theorem setAll_len : ∀ (L : List Nat) (r : List (Option Int)) (x : Int), (setAll r L x).length = r.length
  | [], _, _ => rfl
  | f :: L, r, x => by
    show (setAll (r.set f (some x)) L x).length = _
    rw [setAll_len L, List.length_set]
def fallM (b : Book) (W : Nat) (st : List Nat) : List Nat := st.filter fun f => decide ((leadM b W f st).length < 2)
def restM (b : Book) (W : Nat) (st : List Nat) : List Nat := st.filter fun f => !decide (f ∈ fallM b W st)
inductive Rk (b : Book) (W : Nat) : Nat → List Nat → List (Option Int) → List (Option Int) → List Nat → Prop
  | stop {t : Nat} {st : List Nat} {r : List (Option Int)} : fallM b W st = [] → Rk b W t st r (setAll r st (-1)) st
  | go {t : Nat} {st fin : List Nat} {r res : List (Option Int)} : fallM b W st ≠ [] → Rk b W (t + 1) (restM b W st) (setAll r (fallM b W st) t) res fin → Rk b W t st r res fin
theorem rest_len {b : Book} {W : Nat} {st : List Nat} (h : fallM b W st ≠ []) : (restM b W st).length < st.length := by
  obtain ⟨f, hf⟩ := List.exists_mem_of_ne_nil _ h
  have hs : f ∈ st := (List.mem_filter.mp hf).1
  unfold restM
  refine Nat.lt_of_le_of_ne (List.length_filter_le _ _) fun e => ?_
  have := List.length_filter_eq_length_iff.mp e f hs
  simp [hf] at this
def LastM (b : Book) (W : Nat) (res : List (Option Int)) (fin : List Nat) : Prop := Rk b W 0 (forksM b) (List.replicate b.length none) res fin
def lastL (b : Book) (res : List (Option Int)) : List Nat := (List.range b.length).filter fun s => decide (res[s]? = some (some (-1)))
/-- the least number where the window is a number -/
def leastM (b : Book) (res : List (Option Int)) : Nat := if mvs b 0 = [] then 0 else if forksM b = [] then 1 else if lastL b res = [] then 2 else 3
theorem rk_len {b : Book} {W t : Nat} {st fin : List Nat} {r res : List (Option Int)} (h : Rk b W t st r res fin) : res.length = r.length := by
  induction h with
  | stop _ => exact setAll_len _ _ _
  | go _ _ ih => rw [ih, setAll_len]
theorem rk_ex (b : Book) (W : Nat) : ∀ (n t : Nat) (st : List Nat) (r : List (Option Int)), st.length ≤ n → ∃ res fin, Rk b W t st r res fin := by
  intro n
  induction n with
  | zero =>
    intro t st r h
    have : st = [] := List.eq_nil_of_length_eq_zero (by omega)
    subst this
    exact ⟨_, _, .stop rfl⟩
  | succ n ih =>
    intro t st r h
    by_cases e : fallM b W st = []
    · exact ⟨_, _, .stop e⟩
    · obtain ⟨res, fin, k⟩ := ih (t + 1) (restM b W st) (setAll r (fallM b W st) t) (by have := rest_len e; omega)
      exact ⟨res, fin, .go e k⟩
theorem rk_fun {b : Book} {W t : Nat} {st fin fin' : List Nat} {r res res' : List (Option Int)} (h : Rk b W t st r res fin) (h' : Rk b W t st r res' fin') : res = res' ∧ fin = fin' := by
  induction h with
  | stop e =>
    cases h' with
    | stop _ => exact ⟨rfl, rfl⟩
    | go e' _ => exact absurd e e'
  | go e _ ih =>
    cases h' with
    | stop e' => exact absurd e' e
    | go _ k => exact ih k
open PySem PySem.Spec PyProof.Rows L2
/-- the first window for three wires -/
def FromW (b : Book) (o : Option Nat) : Prop := match o with
  | some W => 1 ≤ W ∧ W ≤ 9 ∧ (∃ res fin, LastM b W res fin ∧ leastM b res = 3) ∧ ∀ V, 1 ≤ V → V < W → ∀ res fin, LastM b V res fin → leastM b res ≠ 3
  | none => ∀ V, 1 ≤ V → V ≤ 9 → ∀ res fin, LastM b V res fin → leastM b res ≠ 3
def oN : Option Nat → V
  | none => .non
  | some n => nV n
end Nv
set_option Elab.async false
set_option linter.all false
set_option maxRecDepth 100000
namespace Nv
open PySem PySem.Spec PyProof.Rows L2
section
variable {P : Program} {w : World} {K : PySem.W.Frag} {mg : Str → Option Value} {base : Heap}
/-! ### forks, reach -/
theorem forTo {n m : Nat} (h : n = m) : ((n : Int)).toNat = m := by rw [Int.toNat_natCast, h]
theorem sc_fork_states : FnScope ["book", "state"] ["book"] (defScope s_fork_states) := ⟨rfl, rfl, rfl, by decide +kernel, rfl, by decide +kernel, by decide +kernel⟩
def sp_fork_states (K : PySem.W.Frag) : Sp := fun vs H Q _ => ∃ (v : V) (b : Book), vs = [v] ∧ BkV K H v b ∧ b.length ≤ 8 ∧ ∀ (t : Addr) (H' : Hp), SqT K H' t ((forksM b).map nV) → Ext [] H H' → Q (.ref t) H'
theorem ok_fork_states (T : Tx K mg) : FnOk P w K mg base CX0 1 T.fork_states.f T.fork_states.fd ["book"] (sp_fork_states K) := by
  refine T.fork_states.F.ok sc_fork_states (fun vs H Q E h => ?_) (fun cdv A outer s H vs Q E hr h => ?_)
  · obtain ⟨v, b, rfl, _⟩ := h; rfl
  · obtain ⟨v, b, rfl, ⟨a, ls, rfl, ha, hls⟩, h8, q⟩ := h
    have llen := Paired.len hls
    refine ⟨_, (pss_one (ps_ret (pe_callTy call_tupZ (by rfl) T.n_tuple (by decide +kernel) (pa_cons (pe_lc (own := [("state", 1)]) rfl sc_fork_states.nd (pi_range1 (by rfl) T.n_range (pa_cons (pe_callB call_len_seq (by rfl) T.n_len PySem.boot_len (pa_cons (pv 0) pa_nil)) pa_nil)) (blkOk_by (own := [("state", 1)]) (N := ["book", "state"]) (sc := defScope s_fork_states) (by decide +kernel)) (fun _ _ _ _ _ => (pg_name (i := 1) sc_fork_states.nd rfl (.inl rfl))) (fun _ _ _ _ _ => pts_one (pt_mid (pt_cmpR op_gt (pe_callB (call_len_seqK K) (by rfl) T.n_len PySem.boot_len (pa_cons (pe_ix (ix_tupK K) (pv 0) (pv 1) (fun _ _ => rfl)) pa_nil)) pe_int (nomark _)))) (fun _ _ _ _ _ => (pv 1))) pa_nil)))), ?_⟩
    refine ⟨_, rfl, a, _, rfl, .inr ha, _, rfl, by omega, by omega, fun D hD => ?_⟩
    rw [forTo llen]
    refine filt_range (fun s => decide (1 < (mvs b s).length)) hD (by omega) (fun v => rfl) (fun v => rfl) (fun k H' hk e => ?_) (fun H' h e => ?_)
    · obtain ⟨u, hu, c, ps, rfl, hc, hps⟩ := Paired.get hls (mvs_lt hk)
      have plen := Paired.len hps
      refine ⟨_, rfl, _, rfl, a, _, _, _, rfl, rfl, e.tup Lsts.nil ha, atI_nat hu, c, _, rfl, .inr (e.tz Lsts.nil hc).sq, _, _, rfl, rfl, _, rfl, ?_, .refl⟩
      rw [List.length_map, plen]
      refine decide_eq_decide.mpr ?_
      omega
    · refine ⟨D, _, rfl, .of h, fun t H2 ht hH => ?_⟩
      obtain ⟨o, _, rfl⟩ := hH
      exact q t _ (.inl (.inr ⟨o, upd_same⟩)) (e.put2 ht)
theorem sc_reach : FnScope ["book", "state", "many", "found", "_", "ahead", "at", "message", "to"] ["book", "state", "many"] (defScope s_reach) := ⟨rfl, rfl, rfl, by decide +kernel, rfl, by decide +kernel, by decide +kernel⟩
def sp_reach (K : PySem.W.Frag) : Sp := fun vs H Q _ => ∃ (v : V) (b : Book) (s m : Nat), vs = [v, .int s, .int m] ∧ BkV K H v b ∧ FormB b ∧ s < b.length ∧ ∀ (t : Addr) (H' : Hp), SqT K H' t ((reachL b s m).map nV) → Ext [] H H' → Q (.ref t) H'
theorem ok_reach (T : Tx K mg) : FnOk P w K mg base CX0 1 T.reach.f T.reach.fd ["book", "state", "many"] (sp_reach K) := by
  refine T.reach.F.ok sc_reach (fun vs H Q E h => ?_) (fun cdv A outer s H vs Q E hr h => ?_)
  · obtain ⟨v, b, s, m, rfl, _⟩ := h; rfl
  · obtain ⟨v, b, st, m, rfl, ⟨a, ls, rfl, ha, hls⟩, fb, hs, q⟩ := h
    have llen := Paired.len hls
    have h8 := fb.eight
    refine ⟨_, (pss_cons (ps_set (i := 3) sc_reach.nd rfl (.inl rfl) (pe_lst (pa_cons (pv 1) pa_nil)))
      (pss_cons (ps_for PassesOwn.never rfl (pi_range1 (by rfl) T.n_range (pa_cons (pe_callB (call_min2 rfl) (by rfl) T.n_min (by decide +kernel) (pa_cons (pv 2) (pa_cons (pe_callB call_len_seq (by rfl) T.n_len PySem.boot_len (pa_cons (pv 0) pa_nil)) pa_nil))) pa_nil)) (pg_name (i := 4) sc_reach.nd rfl (.inl rfl))
        (pss_cons (ps_setLc2 (i := 5) (own := [("at", 6), ("message", 7), ("to", 8)]) (vs1 := [7, 8]) rfl sc_reach.nd rfl rfl (sw_true rfl rfl rfl (by decide +kernel)) (pi_list (pv 3)) (blkOk_by (own := [("at", 6), ("message", 7), ("to", 8)]) (N := ["book", "state", "many", "found", "_", "ahead", "at", "message", "to"]) (sc := defScope s_reach) (by decide +kernel)) (by decide) (fun _ _ _ _ _ => (pg_name (i := 6) sc_reach.nd rfl (.inl rfl))) (fun _ _ _ _ _ => pts_nil) (fun _ _ _ _ _ => (pi_tupK K (pe_ix (ix_tupK K) (pv 0) (pv 6) (fun _ _ => rfl)))) (fun _ _ _ _ _ => (pg_tupK (n := 2) K rfl (pgs_cons (pg_name (i := 7) sc_reach.nd rfl (.inl rfl)) (pgs_cons (pg_name (i := 8) sc_reach.nd rfl (.inl rfl)) pgs_nil)))) (fun _ _ _ _ _ => pts_nil) (fun _ _ _ _ _ => (pv 8)))
        (pss_one (ps_set (i := 3) sc_reach.nd rfl (.inl rfl) (pe_callB (cr_sortedSet rfl) (by rfl) T.n_sorted (by decide +kernel) (pa_cons (pe_callTy (cr_setI rfl) (by rfl) T.n_set (by decide +kernel) (pa_cons (pe_op op_cat (pv 3) (pv 5)) pa_nil)) pa_nil))))))
      (pss_one (ps_ret (pe_callTy call_tupZ (by rfl) T.n_tuple (by decide +kernel) (pa_cons (pv 3) pa_nil)))))), ?_⟩
    -- found = [state]
    refine ⟨_, rfl, (by show 1 ≤ sizeLine; decide), fun f0 hf0 => ?_⟩
    -- the loop
    have hmin : (if ((ls.length : Int)) < (m : Int) then (ls.length : Int) else (m : Int)) = ((min m b.length : Nat) : Int) := by
      rw [llen]
      by_cases h : (b.length : Int) < (m : Int)
      · rw [if_pos h]; omega
      · rw [if_neg h]; omega
    refine ⟨_, rfl, _, rfl, a, _, rfl, .inr (Ext.tup (Ext.new (L := []) hf0) Lsts.nil ha), _, _, rfl, _, rfl, ?_⟩
    rw [hmin]
    refine ⟨by omega, by omega, ?_⟩
    rw [Int.toNat_natCast]
    refine for_range (lo := 0) (n := _) (fun i σ H' => ∃ (f : Addr) (y4 y5 : Option V), σ = [some (.ref a), some (.int st), some (.int m), some (.ref f), y4, y5, none, none, none] ∧ H' f = some (.lst ((wiL b st i).map nV)) ∧ Ext [] H H') ⟨f0, _, _, rfl, upd_same, .new hf0⟩ ?_ ?_
    · rintro i σ H1 hi ⟨f, y4, y5, rfl, hF, e1⟩
      -- ahead
      refine ⟨_, rfl, f, rfl, ⟨_, .of hF⟩, fun D hD => ?_⟩
      have fD : f ≠ D := ne_of_none hF hD
      have wlt := wiL_lt hs i
      have wlen := wiL_len hs i
      refine lc2_list (K := K) (a := f) (xs := (wiL b st i).map nV) (fun j H' => ∃ ah : List Nat, H' D = some (.lst (ah.map nV)) ∧ ah.length ≤ 5 * j ∧ (∀ k, k ∈ ah ↔ ∃ x ∈ (wiL b st i).take j, ∃ p ∈ mvs b x, p.2 = k) ∧ Ext [] H1 H') ⟨[], upd_same, Nat.zero_le _, fun k => by simp, .new hD⟩ (fun j H' _ ⟨_, _, _, _, e⟩ => .of (e.at hF (by simp))) ?_ ?_
      · rintro j v H' hv ⟨ah, hA, al, am, e2⟩
        obtain ⟨x, hx, rfl⟩ := map_at hv
        have hxb : x < b.length := wlt x (List.mem_of_getElem? hx)
        obtain ⟨u, hu, c, ps, rfl, hc, hps⟩ := Paired.get hls (mvs_lt hxb)
        have plen := Paired.len hps
        have five := (fb.ok hxb).few
        have e3 := e1.trans e2
        refine ⟨rfl, yes ?_⟩
        refine ⟨_, rfl, _, rfl, a, _, _, _, rfl, rfl, e3.tup Lsts.nil ha, atI_nat hu, c, rfl, ⟨_, (e3.tz Lsts.nil hc).sq⟩, ?_⟩
        refine lc2_tup (K := K) (c := c) (ys := ps.map V.ref) (fun k H2 => ∃ ah2 : List Nat, H2 D = some (.lst (ah2.map nV)) ∧ ah2.length ≤ 5 * j + k ∧ (∀ z, z ∈ ah2 ↔ z ∈ ah ∨ ∃ p ∈ (mvs b x).take k, p.2 = z) ∧ Ext [] H1 H2) ⟨ah, hA, al, fun z => by simp, e2⟩ (fun k H2 _ ⟨_, _, _, _, e⟩ => ((e1.trans e).tz Lsts.nil hc).sq) ?_ ?_
        · rintro k v H2 hv2 ⟨ah2, hA2, al2, am2, e5⟩
          obtain ⟨g, hg, rfl⟩ := map_at hv2
          obtain ⟨p, hp, hcp⟩ := Paired.get' hps hg
          have hk5 : k < 5 := by
            have := (List.getElem?_eq_some_iff.mp hp).1
            omega
          have hjl : j < b.length := by
            have := (List.getElem?_eq_some_iff.mp hx).1
            omega
          refine ⟨g, _, rfl, hcp.ext0 (e1.trans e5), rfl, _, _, rfl, _, _, rfl, rfl, rfl, yes ?_⟩
          refine ⟨_, rfl, _, hA2, by rw [List.length_map]; exact small1000 (by omega), ah2 ++ [p.2], by rw [upd_same, List.map_append]; rfl, by rw [List.length_append]; show ah2.length + 1 ≤ _; omega, fun z => ?_, e5.put hD⟩
          · rw [List.mem_append, am2, List.take_add_one, hp]
            constructor
            · rintro ((h | ⟨y, hy, e⟩) | h)
              · exact .inl h
              · exact .inr ⟨y, List.mem_append_left _ hy, e⟩
              · exact .inr ⟨p, List.mem_append_right _ (by simp), (List.mem_singleton.mp h).symm⟩
            · rintro (h | ⟨y, hy, e⟩)
              · exact .inl (.inl h)
              · rcases List.mem_append.mp hy with hy | hy
                · exact .inl (.inr ⟨y, hy, e⟩)
                · have : y = p := by simpa using hy
                  subst this
                  exact .inr (List.mem_singleton.mpr e.symm)
        · rintro H2 ⟨ah2, hA2, al2, am2, e5⟩
          rw [List.length_map, plen] at al2 am2
          refine ⟨ah2, hA2, by omega, fun k => ?_, e5⟩
          rw [am2, am, List.take_of_length_le (Nat.le_refl _), List.take_add_one, hx]
          constructor
          · rintro (⟨y, hy, r⟩ | ⟨p, hp, e⟩)
            · exact ⟨y, List.mem_append_left _ hy, r⟩
            · exact ⟨x, List.mem_append_right _ (by simp), p, hp, e⟩
          · rintro ⟨y, hy, p, hp, e⟩
            rcases List.mem_append.mp hy with hy | hy
            · exact .inl ⟨y, hy, p, hp, e⟩
            · have : y = x := by simpa using hy
              subst this
              exact .inr ⟨p, hp, e⟩
      · rintro H' ⟨ah, hA, al, am, e2⟩
        rw [List.length_map] at al am
        rw [List.take_length] at am
        have hF2 := e2.at hF (by simp)
        have e3 := e1.trans e2
        -- found = sorted(set(found + ahead))
        refine ⟨_, rfl, _, rfl, f, D, _, _, rfl, rfl, hF2, hA, ?_, fun c hc => ?_⟩
        · rw [List.length_map, List.length_map]
          exact Nat.le_of_lt (small1000 (by omega))
        have e4 : Ext [] H' (upd H' c (.lst ((wiL b st i).map nV ++ ah.map nV))) := .new hc
        refine ⟨c, (wiL b st i ++ ah).map (fun n : Nat => (n : Int)), rfl, .of ?_, ?_, fun p z hp hz => ?_⟩
        · rw [upd_same, ← List.map_append, map_nV_int]
        · rw [List.length_map, List.length_append]
          omega
        have e5 := e4.trans (Ext.new (L := []) (o := SetO w p (fun j => decide (j ∈ (wiL b st i ++ ah).map (fun n : Nat => (n : Int)))) z) hp)
        refine ⟨p, _, z, rfl, upd_same, ?_, fun ns t hns hmem hlen ht => ?_⟩
        · rw [List.length_map, List.length_append] at hz
          omega
        have nn : ∃ ms : List Nat, ns = ms.map (fun n : Nat => (n : Int)) := by
          refine ⟨ns.map Int.toNat, ?_⟩
          rw [List.map_map]
          conv => lhs; rw [← List.map_id ns]
          refine List.map_congr_left fun x hx => ?_
          have := (hmem x).mp hx
          have := of_decide_eq_true this
          obtain ⟨n, _, rfl⟩ := List.mem_map.mp this
          rfl
        obtain ⟨ms, rfl⟩ := nn
        have ems : ms = stepL b (wiL b st i) := by
          refine step_eq fb wlt am ?_ fun k => ?_
          · rw [List.pairwise_map] at hns
            exact List.Pairwise.imp (fun h => by omega) hns
          · have h1 := hmem (k : Int)
            rw [decide_eq_true_eq, List.mem_map, List.mem_map] at h1
            constructor
            · intro hk
              obtain ⟨y, hy, e⟩ := h1.mp ⟨k, hk, rfl⟩
              have : y = k := by omega
              subst this
              exact List.mem_append.mp hy
            · intro hk
              obtain ⟨y, hy, e⟩ := h1.mpr ⟨k, List.mem_append.mpr hk, rfl⟩
              have : y = k := by omega
              subst this
              exact hy
        subst ems
        exact ⟨t, _, _, rfl, by rw [upd_same, ← map_nV_int]; rfl, (e3.trans e5).put2 ht⟩
    · rintro σ H' ⟨f, y4, y5, rfl, hF, e⟩
      refine ⟨_, rfl, f, _, rfl, .of hF, fun t H2 ht hH => ?_⟩
      obtain ⟨o, _, rfl⟩ := hH
      exact q t _ (.inl (.inr ⟨o, upd_same⟩)) (e.put2 ht)
end
end Nv
set_option Elab.async false
set_option linter.all false
set_option maxRecDepth 100000
namespace Nv
open PySem PySem.Spec PyProof.Rows L2
section
variable {P : Program} {w : World} {K : PySem.W.Frag} {mg : Str → Option Value} {base : Heap}
/-! ### ways that lead, ways back -/
theorem iteNS' {c A B : Prop} [Decidable c] (hc : ¬ c) (h : A) : if (!decide c) = true then A else B := by
  rw [decide_eq_false hc]
  exact iteT h
theorem rise_nd {s : State} (h : (s.map (·.1)).Pairwise (· < ·)) : (s.map fun q => ((kN q.1, V.int q.2) : Key × V)).map (·.1) |>.Nodup := by
  rw [List.map_map]
  have e : ((fun x : Key × V => x.1) ∘ fun q : Nat × Nat => ((kN q.1, V.int q.2) : Key × V)) = kN ∘ (·.1) := rfl
  rw [e, ← List.map_map]
  refine List.Pairwise.map kN (fun a b h2 h3 => ?_) h
  have : (a : Int) = (b : Int) := Sum.inl.inj h3
  omega
theorem sc_led_to : FnScope ["book", "state", "message", "many"] ["book", "state", "message", "many"] (defScope s_led_to) := ⟨rfl, rfl, rfl, by decide +kernel, rfl, by decide +kernel, by decide +kernel⟩
def sp_led_to (K : PySem.W.Frag) : Sp := fun vs H Q _ => ∃ (v : V) (b : Book) (s k : Nat) (p : Nat × Nat), vs = [v, .int s, .int p.1, .int k] ∧ BkV K H v b ∧ FormB b ∧ p ∈ mvs b s ∧ ∀ (t : Addr) (H' : Hp), SqT K H' t ((ledL b p.2 k).map nV) → Ext [] H H' → Q (.ref t) H'
theorem ok_led_to (T : Tx K mg) : FnOk P w K mg base CX0 2 T.led_to.f T.led_to.fd ["book", "state", "message", "many"] (sp_led_to K) := by
  refine T.led_to.F.ok sc_led_to (fun vs H Q E h => ?_) (fun cdv A outer s H vs Q E hr h => ?_)
  · obtain ⟨v, b, s, k, p, rfl, _⟩ := h; rfl
  · obtain ⟨v, b, st, k, p, rfl, hb, fb, hp, q⟩ := h
    obtain ⟨a, ls, rfl, ha, hls⟩ := id hb
    refine ⟨_, (pss_cons (ps_if (pt_cmpR op_eq (pv 3) pe_int (nomark _))
        (pss_one (ps_ret (pe_tup pa_nil)))
        pss_nil)
      (pss_one (ps_ret (pe_call (ok_reach T) (hr.mono (by decide)) (by rfl) T.reach.g T.reach.F.kp T.reach.b .nil pass0 (pa_cons (pv 0) (pa_cons (pe_dget (hu_of hr) (pe_callTy (call_dictT rfl) (by rfl) T.n_dict (by decide +kernel) (pa_cons (pe_ix ix_tup (pv 0) (pv 1) (fun _ _ => rfl)) pa_nil)) (pv 2) (fun _ _ => rfl)) (pa_cons (pe_op op_sub (pv 3) pe_int) pa_nil))))))), ?_⟩
    refine ⟨_, rfl, rfl, _, rfl, ?_⟩
    have e0 : decide (V.int (k : Int) = V.int 0) = decide (k = 0) := by
      rw [dec_int]
      refine decide_eq_decide.mpr ?_
      omega
    rw [e0]
    refine ite2 (fun z => ?_) (fun z => ?_)
    · have z := of_decide_eq_true z
      subst z
      exact ⟨Nat.zero_le _, fun t ht => q t _ (.of upd_same) (.new ht)⟩
    · have z : ¬ k = 0 := fun y => z (decide_eq_true y)
      have hs : st < b.length := by
        by_cases h : st < b.length
        · exact h
        · rw [mvs_out (by omega)] at hp
          cases hp
      obtain ⟨u, hu, c, ps, rfl, hc, hps⟩ := Paired.get hls (mvs_lt hs)
      have nd := rise_nd (fb.ok hs).rise
      have pk : Paired (fun p kv => SqT K H p [kV kv.1, kv.2]) ps ((mvs b st).map fun q => ((kN q.1, V.int q.2) : Key × V)) := by
        clear nd hu hc
        generalize mvs b st = m at hps
        clear hp
        induction hps with
        | nil => exact .nil
        | cons r _ ih => exact .cons r ih
      refine ⟨_, rfl, _, rfl, _, rfl, a, _, _, _, rfl, rfl, ha, atI_nat hu, c, ps, _, rfl, hc, pk, fun d hd => ?_⟩
      refine ⟨_, rfl, d, .int p.2, rfl, ?_, _, rfl, _, _, rfl, rfl, ?_⟩
      · rw [mergeK_nd _ [] (by simpa using nd)]
        have hm : (kN p.1, V.int p.2) ∈ (mvs b st).map (fun q => ((kN q.1, V.int q.2) : Key × V)) := List.mem_map.mpr ⟨p, hp, rfl⟩
        have := DGet.k (k := kN p.1) (upd_same (H := H) (a := d) (o := .dK ([] ++ (mvs b st).map fun q => ((kN q.1, V.int q.2) : Key × V))))
        rw [List.nil_append, valV_nd nd hm] at this
        exact this
      · have e1 : Ext [] H (upd H d (.dK (mergeK [] ((mvs b st).map fun q => ((kN q.1, V.int q.2) : Key × V))))) := .new hd
        refine ⟨.ref a, b, p.2, k - 1, ?_, hb.ext0 e1, fb, fb.to hp, fun t H' ht e => q t H' ?_ (e1.trans e)⟩
        · have : ((k : Int)) - 1 = ((k - 1 : Nat) : Int) := by omega
          exact congrArg (fun z : Int => [V.ref a, V.int p.2, V.int z]) this
        · unfold ledL
          rw [if_neg z]
          exact ht
theorem sc_ways_back : FnScope ["book", "state", "message", "to"] ["book", "state"] (defScope s_ways_back) := ⟨rfl, rfl, rfl, by decide +kernel, rfl, by decide +kernel, by decide +kernel⟩
def sp_ways_back (K : PySem.W.Frag) : Sp := fun vs H Q _ => ∃ (v : V) (b : Book) (s : Nat), vs = [v, .int s] ∧ BkV K H v b ∧ FormB b ∧ s < b.length ∧ ∀ H', Ext [] H H' → Q (.int (waysM b s)) H'
theorem ok_ways_back (T : Tx K mg) : FnOk P w K mg base CX0 2 T.ways_back.f T.ways_back.fd ["book", "state"] (sp_ways_back K) := by
  refine T.ways_back.F.ok sc_ways_back (fun vs H Q E h => ?_) (fun cdv A outer s H vs Q E hr h => ?_)
  · obtain ⟨v, b, s, rfl, _⟩ := h; rfl
  · obtain ⟨v, b, st, rfl, hb, fb, hs, q⟩ := h
    obtain ⟨a, ls, rfl, ha, hls⟩ := id hb
    have llen := Paired.len hls
    obtain ⟨u, hu, c, ps, rfl, hc, hps⟩ := Paired.get hls (mvs_lt hs)
    have plen := Paired.len hps
    have five := (fb.ok hs).few
    refine ⟨_, (pss_one (ps_ret (pe_callB call_len_seq (by rfl) T.n_len PySem.boot_len (pa_cons (pe_lc (own := [("message", 2), ("to", 3)]) rfl sc_ways_back.nd (pi_tup (pe_ix ix_tup (pv 0) (pv 1) (fun _ _ => rfl))) (blkOk_by (own := [("message", 2), ("to", 3)]) (N := ["book", "state", "message", "to"]) (sc := defScope s_ways_back) (by decide +kernel)) (fun _ _ _ _ _ => (pg_tupK (n := 2) K rfl (pgs_cons (pg_name (i := 2) sc_ways_back.nd rfl (.inl rfl)) (pgs_cons (pg_name (i := 3) sc_ways_back.nd rfl (.inl rfl)) pgs_nil)))) (fun _ _ _ _ _ => pts_one (pt_mid (pt_cmpR (op_in_seqK K) (pv 1) (pe_call (ok_reach T) (hr.mono (by decide)) (by rfl) T.reach.g T.reach.F.kp T.reach.b .nil pass0 (pa_cons (pv 0) (pa_cons (pv 3) (pa_cons (pe_callB (call_len_seqK K) (by rfl) T.n_len PySem.boot_len (pa_cons (pv 0) pa_nil)) pa_nil)))) (by rfl)))) (fun _ _ _ _ _ => (pv 2))) pa_nil)))), ?_⟩
    refine ⟨_, rfl, _, rfl, a, _, _, _, rfl, rfl, ha, atI_nat hu, c, rfl, ⟨_, hc.sq⟩, fun D hD => ?_⟩
    refine lc_tup (K := K) (a := c) (xs := ps.map V.ref) (fun i H' => ∃ xs : List V, H' D = some (.lst xs) ∧ xs.length = (((mvs b st).take i).filter fun p => decide (st ∈ reachL b p.2 b.length)).length ∧ Ext [] H H') ⟨[], upd_same, rfl, .new hD⟩ (fun i H' _ ⟨_, _, _, e⟩ => (e.tz Lsts.nil hc).sq) ?_ ?_
    · rintro i v H' hv ⟨xs, hX, hxl, e⟩
      obtain ⟨g, hg, rfl⟩ := map_at hv
      obtain ⟨p, hp, hcp⟩ := Paired.get' hps hg
      have hm := List.mem_of_getElem? hp
      refine ⟨g, _, rfl, hcp.ext0 e, rfl, _, _, rfl, _, _, rfl, rfl, rfl, ?_⟩
      refine ⟨fun x H3 => x = decide (st ∈ reachL b p.2 b.length) ∧ Ext [] H' H3, ?_, ?_⟩
      · refine ⟨_, rfl, _, rfl, _, rfl, _, rfl, a, _, rfl, .inr (e.tup Lsts.nil ha), .ref a, b, p.2, b.length, by rw [llen]; rfl, hb.ext0 e, fb, fb.to hm, fun t H3 ht e3 => ?_⟩
        exact ⟨t, _, rfl, .inr ht, rfl, flat_nV _, _, rfl, inV_nV st _, e3⟩
      · rintro x H3 ⟨rfl, e3⟩
        have h3 := e3.at hX (by simp)
        refine ifB (fun hf => ?_) (fun hf => ?_)
        · refine ⟨_, rfl, _, h3, ?_, xs ++ [.int p.1], upd_same, ?_, (e.trans e3).put hD⟩
          · rw [hxl]
            refine small1000 (Nat.le_trans (List.length_filter_le _ _) ?_)
            rw [List.length_take]
            omega
          · rw [List.length_append, hxl, filter_take _ hp, hf]
            simp
        · refine ⟨xs, h3, ?_, e.trans e3⟩
          rw [hxl, filter_take _ hp, hf]
          simp
    · rintro H' ⟨xs, hX, hxl, e⟩
      rw [List.length_map, plen, List.take_length] at hxl
      refine ⟨D, xs, rfl, .inl (.of hX), ?_⟩
      have := q H' e
      unfold waysM at this
      rw [← hxl] at this
      exact this
theorem sc_knots : FnScope ["book", "state"] ["book"] (defScope s_knots) := ⟨rfl, rfl, rfl, by decide +kernel, rfl, by decide +kernel, by decide +kernel⟩
def sp_knots (K : PySem.W.Frag) : Sp := fun vs H Q _ => ∃ (v : V) (b : Book), vs = [v] ∧ BkV K H v b ∧ OkB b ∧ ∀ (t : Addr) (H' : Hp), SqT K H' t ((knotsM b).map nV) → Ext [] H H' → Q (.ref t) H'
theorem ok_knots (T : Tx K mg) : FnOk P w K mg base CX0 6 T.knots.f T.knots.fd ["book"] (sp_knots K) := by
  refine T.knots.F.ok sc_knots (fun vs H Q E h => ?_) (fun cdv A outer s H vs Q E hr h => ?_)
  · obtain ⟨v, b, rfl, _⟩ := h; rfl
  · obtain ⟨v, b, rfl, hb, ok, q⟩ := h
    have h8 := ok.eight
    refine ⟨_, (pss_cons (ps_expr (pe_call (ok_made_book T) (hr.mono (by decide)) (by rfl) T.made_book.g T.made_book.F.kp T.made_book.b .nil pass0 (pa_cons (pv 0) pa_nil)))
      (pss_one (ps_ret (pe_callTy call_tupZ (by rfl) T.n_tuple (by decide +kernel) (pa_cons (pe_lc (own := [("state", 1)]) rfl sc_knots.nd (pi_range1 (by rfl) T.n_range (pa_cons (pe_callB call_len_seq (by rfl) T.n_len PySem.boot_len (pa_cons (pv 0) pa_nil)) pa_nil)) (blkOk_by (own := [("state", 1)]) (N := ["book", "state"]) (sc := defScope s_knots) (by decide +kernel)) (fun _ _ _ _ _ => (pg_name (i := 1) sc_knots.nd rfl (.inl rfl))) (fun _ _ _ _ _ => pts_one (pt_mid (pt_cmpR op_gt (pe_call (ok_ways_back T) (hr.mono (by decide)) (by rfl) T.ways_back.g T.ways_back.F.kp T.ways_back.b .nil pass0 (pa_cons (pv 0) (pa_cons (pv 1) pa_nil))) pe_int (nomark _)))) (fun _ _ _ _ _ => (pv 1))) pa_nil))))), ?_⟩
    refine ⟨_, rfl, v, b, rfl, hb, ok, fun H1 e1 => ?_⟩
    have hb1 := hb.ext0 e1
    obtain ⟨a, ls, rfl, ha, hls⟩ := id hb1
    have llen := Paired.len hls
    refine ⟨_, rfl, a, _, rfl, .inr ha, _, rfl, by omega, by omega, fun D hD => ?_⟩
    rw [forTo llen]
    refine filt_range (fun s => decide (1 < waysM b s)) hD (by omega) (fun v => rfl) (fun v => rfl) (fun k H' hk e => ?_) (fun H' h e => ?_)
    · refine ⟨_, rfl, _, rfl, .ref a, b, k, rfl, hb1.ext0 e, ok.toFormB, hk, fun H3 e3 => ⟨_, _, rfl, rfl, _, rfl, ?_, e3⟩⟩
      refine decide_eq_decide.mpr ?_
      omega
    · refine ⟨D, _, rfl, .of h, fun t H2 ht hH => ?_⟩
      obtain ⟨o, _, rfl⟩ := hH
      exact q t _ (.inl (.inr ⟨o, upd_same⟩)) ((e1.trans e).put2 ht)
theorem sc_leading_to : FnScope ["book", "state", "window", "goals", "out", "message", "to", "ends", "end"] ["book", "state", "window", "goals"] (defScope s_leading_to) := ⟨rfl, rfl, rfl, by decide +kernel, rfl, by decide +kernel, by decide +kernel⟩
def sp_leading_to (K : PySem.W.Frag) : Sp := fun vs H Q _ => ∃ (v : V) (b : Book) (s W : Nat) (g : Addr) (goals : List Nat), vs = [v, .int s, .int W, .ref g] ∧ BkV K H v b ∧ FormB b ∧ s < b.length ∧ 1 ≤ W ∧ SqL K H g (goals.map nV) ∧ ∀ (t : Addr) (H' : Hp), H' t = some (.lst ((leadM b W s goals).map nV)) → Ext [] H H' → Q (.ref t) H'
theorem ok_leading_to (T : Tx K mg) : FnOk P w K mg base CX0 3 T.leading_to.f T.leading_to.fd ["book", "state", "window", "goals"] (sp_leading_to K) := by
  refine T.leading_to.F.ok sc_leading_to (fun vs H Q E h => ?_) (fun cdv A outer s H vs Q E hr h => ?_)
  · obtain ⟨v, b, s, W, g, goals, rfl, _⟩ := h; rfl
  · obtain ⟨v, b, st, W, g, goals, rfl, hb, fb, hs, hW, hg, q⟩ := h
    obtain ⟨a, ls, rfl, ha, hls⟩ := id hb
    obtain ⟨u, hu, c, ps, rfl, hc, hps⟩ := Paired.get hls (mvs_lt hs)
    have plen := Paired.len hps
    have five := (fb.ok hs).few
    have h8 := fb.eight
    refine ⟨_, (pss_cons (ps_set (i := 4) sc_leading_to.nd rfl (.inl rfl) (pe_lst pa_nil))
      (pss_cons (ps_for PassesOwn.never rfl (pi_tup (pe_ix ix_tup (pv 0) (pv 1) (fun _ _ => rfl))) (pg_tup rfl (pgs_cons (pg_name (i := 5) sc_leading_to.nd rfl (.inl rfl)) (pgs_cons (pg_name (i := 6) sc_leading_to.nd rfl (.inl rfl)) pgs_nil)))
        (pss_cons (ps_set (i := 7) sc_leading_to.nd rfl (.inl rfl) (pe_call (ok_led_to T) (hr.mono (by decide)) (by rfl) T.led_to.g T.led_to.F.kp T.led_to.b .nil pass0 (pa_cons (pv 0) (pa_cons (pv 1) (pa_cons (pv 5) (pa_cons (pe_op op_sub (pv 2) pe_int) pa_nil))))))
        (pss_one (ps_if (pt_val (pe_callB (cr_any rfl) (by rfl) T.n_any (by decide +kernel) (pa_cons (pe_lc (own := [("end", 8)]) rfl sc_leading_to.nd (pi_tup (pv 7)) (blkOk_by (own := [("end", 8)]) (N := ["book", "state", "window", "goals", "out", "message", "to", "ends", "end"]) (sc := defScope s_leading_to) (by decide +kernel)) (fun _ _ _ _ _ => (pg_name (i := 8) sc_leading_to.nd rfl (.inl rfl))) (fun _ _ _ _ _ => pts_nil) (fun _ _ _ _ _ => (pe_cmpR (op_in_seqK K) (pv 8) (pv 3) (by rfl)))) pa_nil)))
          (pss_one (ps_expr (pe_bm PySem.F.plainAttrs_list PySem.F.slot_list_append PySem.F.type_list_append mt_append (pv 4) (pa_cons (pv 5) pa_nil))))
          pss_nil))))
      (pss_one (ps_ret (pv 4))))), ?_⟩
    refine ⟨Nat.zero_le _, fun o ho => ?_⟩
    have e0 : Ext [] H (upd H o (.lst [])) := .new ho
    refine ⟨_, rfl, _, rfl, a, _, _, _, rfl, rfl, e0.tup Lsts.nil ha, atI_nat hu, c, rfl, ⟨_, (e0.tz Lsts.nil hc).sq⟩, ?_⟩
    refine for_tup (K := K) (a := c) (xs := ps.map V.ref) (fun i σ H' => ∃ y5 y6 y7 : Option V, σ = [some (.ref a), some (.int st), some (.int W), some (.ref g), some (.ref o), y5, y6, y7, none] ∧ H' o = some (.lst (((((mvs b st).take i).filter fun p => (ledL b p.2 (W - 1)).any fun k => decide (k ∈ goals)).map (·.1)).map nV)) ∧ Ext [] H H')
      ⟨_, _, _, rfl, upd_same, e0⟩ (fun i σ H' _ ⟨_, _, _, _, _, e⟩ => (e.tz Lsts.nil hc).sq) ?_ ?_
    · rintro i v σ H' hv ⟨y5, y6, y7, rfl, hO, e⟩
      obtain ⟨gg, hgg, rfl⟩ := map_at hv
      obtain ⟨p, hp, hcp⟩ := Paired.get' hps hgg
      have hm := List.mem_of_getElem? hp
      refine ⟨gg, _, rfl, hcp.ext0 e, rfl, _, _, rfl, _, _, rfl, rfl, ?_⟩
      refine ⟨_, rfl, _, rfl, _, rfl, _, rfl, _, _, rfl, rfl, .ref a, b, st, W - 1, p, ?_, hb.ext0 e, fb, hm, fun t H1 ht e1 => ?_⟩
      · have : ((W : Int)) - 1 = ((W - 1 : Nat) : Int) := by omega
        exact congrArg (fun z : Int => [V.ref a, V.int st, V.int p.1, V.int z]) this
      -- any([..])
      have llt := ledL_lt (m := W - 1) (fb.to hm)
      refine ⟨_, rfl, t, rfl, ⟨_, ht⟩, fun D hD => ?_⟩
      have hO1 := e1.at hO (by simp)
      refine lc_tup (K := K) (a := t) (xs := (ledL b p.2 (W - 1)).map nV) (fun j H2 => H2 D = some (.lst ((((ledL b p.2 (W - 1)).take j).map fun k => decide (k ∈ goals)).map V.bl)) ∧ Ext [] H1 H2) ⟨upd_same, .new hD⟩ (fun j H2 _ ⟨_, e⟩ => e.tup Lsts.nil ht) ?_ ?_
      · rintro j v H2 hv ⟨hD2, e2⟩
        obtain ⟨k, hk, rfl⟩ := map_at hv
        refine ⟨rfl, yes ?_⟩
        refine ⟨_, rfl, _, rfl, g, _, rfl, .inl (((e.trans e1).trans e2).frz (by simp) hg), rfl, flat_nV _, _, hD2, ?_, ?_, e2.put hD⟩
        · rw [List.length_map, List.length_map, List.length_take]
          have l1 : (ledL b p.2 (W - 1)).length ≤ b.length := by
            unfold ledL
            split
            · exact Nat.zero_le _
            · exact wiL_len (fb.to hm) _
          exact small1000 (by omega)
        · rw [upd_same, List.take_add_one, hk, List.map_append, List.map_append]
          show _ = some (HO.lst (_ ++ [V.bl (decide (k ∈ goals))]))
          rw [← inV_nV]
          rfl
      · rintro H2 ⟨hD2, e2⟩
        rw [List.length_map, List.take_length] at hD2
        have hO2 := e2.at hO1 (by simp)
        have ee := (e.trans e1).trans e2
        refine ⟨D, _, rfl, .of hD2, _, rfl, ?_⟩
        have ean : (((ledL b p.2 (W - 1)).map fun k => decide (k ∈ goals)).any id) = (ledL b p.2 (W - 1)).any fun k => decide (k ∈ goals) := by rw [List.any_map]; rfl
        rw [ean]
        have oD : o ≠ D := ne_of_none hO1 hD
        refine ifB (fun hf => ?_) (fun hf => ?_)
        · refine ⟨_, rfl, .inl ⟨rfl, _, .of hO2⟩, _, rfl, o, _, _, rfl, rfl, hO2, ?_, _, _, _, rfl, ?_, ee.put ho⟩
          · rw [List.length_map, List.length_map]
            refine small1000 (Nat.le_trans (List.length_filter_le _ _) ?_)
            rw [List.length_take]
            omega
          · rw [upd_same, filter_take _ hp, hf]
            simp
        · refine ⟨_, _, _, rfl, ?_, ee⟩
          rw [hO2, filter_take _ hp, hf]
          simp
    · rintro σ H' ⟨y5, y6, y7, rfl, hO, e⟩
      rw [List.length_map, plen, List.take_length] at hO
      exact ⟨_, rfl, q o H' hO e⟩
theorem sc_made_window : FnScope ["thing"] ["thing"] (defScope s_made_window) := ⟨rfl, rfl, rfl, by decide +kernel, rfl, by decide +kernel, by decide +kernel⟩
def sp_made_window : Sp := fun vs H Q _ => ∃ W : Nat, vs = [.int W] ∧ 1 ≤ W ∧ Q (.int W) H
theorem ok_made_window (T : Tx K mg) : FnOk P w K mg base CX0 2 T.made_window.f T.made_window.fd ["thing"] sp_made_window := by
  refine T.made_window.F.ok sc_made_window (fun vs H Q E h => ?_) (fun cdv A outer s H vs Q E hr h => ?_)
  · obtain ⟨W, rfl, _⟩ := h; rfl
  · obtain ⟨W, rfl, hW, q⟩ := h
    refine ⟨_, (pss_cons (ps_if (PW.pt (pw_and (pt_cmpR op_notN (pv 0) pe_non (nomark _)) (pw_and1 (PW.pt (pw_or (pt_not (pt_val (pe_call (ok_whole T) (hr.mono (by decide)) (by rfl) T.whole.g T.whole.F.kp T.whole.b .nil pass0 (pa_cons (pv 0) pa_nil)))) (pw_or1 (pt_cmpR op_lt (pv 0) pe_int (nomark _))))))))
        (pss_one ps_never)
        pss_nil)
      (pss_one (ps_ret (pv 0)))), ?_⟩
    refine ⟨_, rfl, rfl, _, rfl, iteNS' (by intro z; cases z) ?_⟩
    refine ⟨_, rfl, _, rfl, _, rfl, notF rfl ⟨_, rfl, _, _, rfl, rfl, _, rfl, ?_⟩⟩
    rw [decide_eq_false (by omega)]
    exact iteF ⟨_, rfl, q⟩
theorem sc_check_number : FnScope ["window"] ["window"] (defScope s_check_number) := ⟨rfl, rfl, rfl, by decide +kernel, rfl, by decide +kernel, by decide +kernel⟩
def sp_check_number : Sp := fun vs H Q _ => ∃ W : Nat, vs = [.int W] ∧ 1 ≤ W ∧ Q .non H
theorem ok_check_number (T : Tx K mg) : FnOk P w K mg base CX0 3 T.check_number.f T.check_number.fd ["window"] sp_check_number := by
  refine T.check_number.F.ok sc_check_number (fun vs H Q E h => ?_) (fun cdv A outer s H vs Q E hr h => ?_)
  · obtain ⟨W, rfl, _⟩ := h; rfl
  · obtain ⟨W, rfl, hW, q⟩ := h
    refine ⟨_, (pss_one (ps_if (pt_cmpR op_isN (pe_call (ok_made_window T) (hr.mono (by decide)) (by rfl) T.made_window.g T.made_window.F.kp T.made_window.b .nil pass0 (pa_cons (pv 0) pa_nil)) pe_non (nomark _))
        (pss_one ps_never)
        pss_nil)), ?_⟩
    refine ⟨_, rfl, W, rfl, hW, rfl, _, rfl, ?_⟩
    rw [decide_eq_false (by intro z; cases z)]
    exact iteF q
end
end Nv
set_option Elab.async false
set_option linter.all false
set_option maxRecDepth 100000
namespace Nv
open PySem PySem.Spec PyProof.Rows L2
section
variable {P : Program} {w : World} {K : PySem.W.Frag} {mg : Str → Option Value} {base : Heap}
/-! ### ranks, lasting forks, the least number -/
def oV : Option Int → V
  | none => .non
  | some i => .int i
theorem sc_ranks_for : FnScope ["book", "window", "rank_of", "standing", "turn", "falling", "fork"] ["book", "window"] (defScope s_ranks_for) := ⟨rfl, rfl, rfl, by decide +kernel, rfl, by decide +kernel, by decide +kernel⟩
def sp_ranks_for (K : PySem.W.Frag) : Sp := fun vs H Q _ => ∃ (v : V) (b : Book) (W : Nat), vs = [v, .int W] ∧ BkV K H v b ∧ FormB b ∧ 1 ≤ W ∧ ∀ (res : List (Option Int)) (fin : List Nat) (t : Addr) (H' : Hp), LastM b W res fin → SqT K H' t (res.map oV) → Ext [] H H' → Q (.ref t) H'
theorem ok_ranks_for (T : Tx K mg) : FnOk P w K mg base CX0 4 T.ranks_for.f T.ranks_for.fd ["book", "window"] (sp_ranks_for K) := by
  refine T.ranks_for.F.ok sc_ranks_for (fun vs H Q E h => ?_) (fun cdv A outer s H vs Q E hr h => ?_)
  · obtain ⟨v, b, W, rfl, _⟩ := h; rfl
  · obtain ⟨v, b, W, rfl, hb, fb, hW, q⟩ := h
    obtain ⟨a, ls, rfl, ha, hls⟩ := id hb
    have llen := Paired.len hls
    have h8 := fb.eight
    refine ⟨_, (pss_cons (ps_set (i := 2) sc_ranks_for.nd rfl (.inl rfl) (pe_op op_rep (pe_lst (pa_cons pe_non pa_nil)) (pe_callB call_len_seq (by rfl) T.n_len PySem.boot_len (pa_cons (pv 0) pa_nil))))
      (pss_cons (ps_set (i := 3) sc_ranks_for.nd rfl (.inr rfl) (pe_callTy call_list_of (by rfl) T.n_list (by decide +kernel) (pa_cons (pe_call (ok_fork_states T) (hr.mono (by decide)) (by rfl) T.fork_states.g T.fork_states.F.kp T.fork_states.b .nil pass0 (pa_cons (pv 0) pa_nil)) pa_nil)))
      (pss_cons (ps_set (i := 4) sc_ranks_for.nd rfl (.inl rfl) pe_int)
      (pss_cons (ps_while PassesOwn.never (pt_val pe_bl)
        (pss_cons (ps_set (i := 5) sc_ranks_for.nd rfl (.inr rfl) (pe_lc (own := [("fork", 6)]) rfl sc_ranks_for.nd (pi_list (pv 3)) (blkOk_by (own := [("fork", 6)]) (N := ["book", "window", "rank_of", "standing", "turn", "falling", "fork"]) (sc := defScope s_ranks_for) (by decide +kernel)) (fun _ _ _ _ _ => (pg_name (i := 6) sc_ranks_for.nd rfl (.inl rfl))) (fun _ _ _ _ _ => pts_one (pt_mid (pt_cmpR op_lt (pe_callB (call_len_seqK K) (by rfl) T.n_len PySem.boot_len (pa_cons (pe_call (ok_leading_to T) (hr.mono (by decide)) (by rfl) T.leading_to.g T.leading_to.F.kp T.leading_to.b .nil pass0 (pa_cons (pv 0) (pa_cons (pv 6) (pa_cons (pv 1) (pa_cons (pv 3) pa_nil))))) pa_nil)) pe_int (nomark _)))) (fun _ _ _ _ _ => (pv 6))))
        (pss_cons (ps_if (pt_not (pt_truth (pv 5) (by intro _; rfl)))
          (pss_one ps_break)
          pss_nil)
        (pss_cons (ps_for PassesOwn.never rfl (pi_list (pv 5)) (pg_name (i := 6) sc_ranks_for.nd rfl (.inl rfl))
          (pss_one (ps_asg (pv 4) (pg_sub (pv 2) (pv 6) set_list))))
        (pss_cons (ps_set (i := 3) sc_ranks_for.nd rfl (.inr rfl) (pe_lc (own := [("fork", 6)]) rfl sc_ranks_for.nd (pi_list (pv 3)) (blkOk_by (own := [("fork", 6)]) (N := ["book", "window", "rank_of", "standing", "turn", "falling", "fork"]) (sc := defScope s_ranks_for) (by decide +kernel)) (fun _ _ _ _ _ => (pg_name (i := 6) sc_ranks_for.nd rfl (.inl rfl))) (fun _ _ _ _ _ => pts_one (pt_mid (pt_cmpR (op_notIn_seqK K) (pv 6) (pv 5) (by rfl)))) (fun _ _ _ _ _ => (pv 6))))
        (pss_one (ps_aug (i := 4) sc_ranks_for.nd rfl (.inl rfl) pe_int ip_add)))))))
      (pss_cons (ps_for PassesOwn.never rfl (pi_list (pv 3)) (pg_name (i := 6) sc_ranks_for.nd rfl (.inl rfl))
        (pss_one (ps_asg (pe_un un_neg pe_int) (pg_sub (pv 2) (pv 6) set_list))))
      (pss_one (ps_ret (pe_callTy call_tupZ (by rfl) T.n_tuple (by decide +kernel) (pa_cons (pv 2) pa_nil))))))))), ?_⟩
    -- rank_of = [None] * len(book)
    refine ⟨(by show 1 ≤ sizeLine; decide), fun x hx => ?_⟩
    have e0 : Ext [] H (upd H x (.lst [.non])) := .new hx
    refine ⟨_, rfl, a, _, rfl, .inr (e0.tup Lsts.nil ha), x, _, _, rfl, rfl, upd_same, by omega, by omega, ?_, fun ro hro => ?_⟩
    · rw [forTo llen]
      exact Nat.le_of_lt (small1000 (by show 1 * b.length ≤ 1000; omega))
    rw [forTo llen]
    have e1 := e0.trans (Ext.new (L := []) (o := .lst (List.replicate b.length [V.non]).flatten) hro)
    have hro0 : H ro = none := e0.free hro
    have hr1 : upd (upd H x (.lst [.non])) ro (.lst (List.replicate b.length [V.non]).flatten) ro = some (.lst ((List.replicate b.length (none : Option Int)).map oV)) := by
      rw [upd_same, List.map_replicate]
      congr 2
      clear hro e1 llen h8 fb hb q hls ha
      induction b.length with
      | zero => rfl
      | succ n ih => rw [List.replicate_succ, List.flatten_cons, ih, List.replicate_succ]; rfl
    generalize upd (upd H x (.lst [.non])) ro (.lst (List.replicate b.length [V.non]).flatten) = H1 at *
    -- standing = list(fork_states(book))
    refine ⟨_, rfl, .ref a, b, rfl, hb.ext0 e1, h8, fun t H2 ht e2 => ?_⟩
    refine ⟨t, _, rfl, .inr ht, fun so hso => ?_⟩
    have e3 := (e1.trans e2).put2 (o := .lst ((forksM b).map nV)) hso
    have hr2 := e2.at hr1 (by simp)
    have hso0 : H so = none := (e1.trans e2).free hso
    have ros : ro ≠ so := ne_of_none hr2 hso
    -- the rounds
    have fl : (forksM b).length ≤ b.length := by
      unfold forksM
      refine Nat.le_trans (List.length_filter_le _ _) ?_
      rw [List.length_range]
      exact Nat.le_refl _
    refine ⟨fun m σ H' => ∃ (turn : Nat) (st : List Nat) (r : List (Option Int)) (so : Addr) (y5 y6 : Option V), σ = [some (.ref a), some (.int W), some (.ref ro), some (.ref so), some (.int turn), y5, y6] ∧ m = st.length ∧ st.length ≤ 8 ∧ (∀ k ∈ st, k < b.length) ∧ H' ro = some (.lst (r.map oV)) ∧ r.length = b.length ∧
      H' so = some (.lst (st.map nV)) ∧ ro ≠ so ∧ (∀ res fin, Rk b W turn st r res fin → LastM b W res fin) ∧ Ext [] H H',
      ⟨_, 0, forksM b, List.replicate b.length none, so, _, _, rfl, rfl, by omega, fun k hk => (mem_filt.mp hk).1, by rw [upd_ne ros]; exact hr2, List.length_replicate, upd_same, ros, fun _ _ h => h, e3⟩, ?_⟩
    clear e3 hr2 hso0 ros hso ht e2 hr1
    rintro m σ H3 ⟨turn, st, r, so, y5, y6, rfl, rfl, st8, stlt, hR, rlen, hS, ros, hrk, e⟩
    refine ⟨true, rfl, iteT ⟨fun σ H' => ∃ (turn : Nat) (st' : List Nat) (r : List (Option Int)) (so : Addr) (y5 y6 : Option V), σ = [some (.ref a), some (.int W), some (.ref ro), some (.ref so), some (.int turn), y5, y6] ∧ st'.length < st.length ∧ (∀ k ∈ st', k < b.length) ∧ H' ro = some (.lst (r.map oV)) ∧ r.length = b.length ∧
      H' so = some (.lst (st'.map nV)) ∧ ro ≠ so ∧ (∀ res fin, Rk b W turn st' r res fin → LastM b W res fin) ∧ Ext [] H H', ?_, ?_⟩⟩
    · rintro σ' H' ⟨turn, st', r, so, y5, y6, rfl, hlt, h1, h2, h3, h4, h5, h6, h7⟩
      exact ⟨_, hlt, turn, st', r, so, _, _, rfl, rfl, by omega, h1, h2, h3, h4, h5, h6, h7⟩
    -- falling
    refine ⟨_, rfl, so, rfl, ⟨_, .of hS⟩, fun fo hfo => ?_⟩
    have rofo : ro ≠ fo := ne_of_none hR hfo
    have sofo : so ≠ fo := ne_of_none hS hfo
    refine filt_list (K := K) (a := so) (l := st) (fun f => decide ((leadM b W f st).length < 2)) hfo (.of hS) (by omega) (fun v => rfl) (fun v => rfl) (fun k H' hk e2 => ?_) (fun H4 hF e2 => ?_)
    · refine ⟨_, rfl, _, rfl, _, rfl, _, rfl, .ref a, b, k, W, so, st, rfl, hb.ext0 (e.trans e2), fb, stlt k hk, hW, .of (e2.at hS (by simp)), fun t H5 ht e5 => ?_⟩
      refine ⟨t, _, rfl, .inl (.of ht), _, _, rfl, rfl, _, rfl, ?_, e5⟩
      rw [List.length_map]
      refine decide_eq_decide.mpr ?_
      omega
    · have e3 := e.trans e2
      have hR4 := e2.at hR (by simp)
      have hS4 := e2.at hS (by simp)
      -- if not falling: break
      have nR : H ro = none := hro0
      refine ⟨_, rfl, _, .inl ⟨_, .of hF, rfl⟩, ?_⟩
      have em : ((fallM b W st).map nV).isEmpty = (fallM b W st).isEmpty := by cases fallM b W st <;> rfl
      show (if (!(!((fallM b W st).map nV).isEmpty)) = true then _ else _)
      rw [em, Bool.not_not]
      refine ifB (fun hemp => ?_) (fun hemp => ?_)
      · -- the end
        have hemp : fallM b W st = [] := List.isEmpty_iff.mp hemp
        refine ⟨_, rfl, so, rfl, ⟨_, .of hS4⟩, for_list (K := K) (a := so) (xs := st.map nV) (fun k σ H' => ∃ y6 : Option V, σ = [some (.ref a), some (.int W), some (.ref ro), some (.ref so), some (.int turn), some (.ref fo), y6] ∧ H' ro = some (.lst ((setAll r (st.take k) (-1)).map oV)) ∧ H' so = some (.lst (st.map nV)) ∧ Ext [] H H')
          ⟨_, rfl, hR4, hS4, e3⟩ (fun k σ H' _ ⟨_, _, _, h, _⟩ => .of h) ?_ ?_⟩
        · rintro k v σ H' hv ⟨y6, rfl, h1, h2, h3⟩
          obtain ⟨f, hf, rfl⟩ := map_at hv
          refine ⟨1, rfl, _, rfl, _, rfl, ro, _, _, f, rfl, rfl, h1, ixNat ?_, _, rfl, ?_, ?_, h3.put nR⟩
          · rw [List.length_map, setAll_len, rlen]
            exact stlt f (List.mem_of_getElem? hf)
          · rw [upd_same, List.take_add_one, hf]
            show _ = some (HO.lst ((setAll r (st.take k ++ [f]) (-1)).map oV))
            rw [setAll_snoc, List.map_set]
            rfl
          · rw [upd_ne ros.symm]
            exact h2
        · rintro σ H' ⟨y6, rfl, h1, h2, h3⟩
          rw [List.length_map, List.take_length] at h1
          refine ⟨_, rfl, ro, _, rfl, .of h1, fun t H5 ht hH => ?_⟩
          obtain ⟨o, _, rfl⟩ := hH
          exact q _ st t _ (hrk _ _ (.stop hemp)) (.inl (.inr ⟨o, upd_same⟩)) (h3.put2 ht)
      · have hemp : fallM b W st ≠ [] := fun z => by rw [z] at hemp; cases hemp
        have fsub : ∀ k ∈ fallM b W st, k < b.length := fun k hk => stlt k (List.mem_filter.mp hk).1
        -- for fork in falling
        refine ⟨_, rfl, fo, rfl, ⟨_, .of hF⟩, for_list (K := K) (a := fo) (xs := (fallM b W st).map nV) (fun k σ H' => ∃ y6 : Option V, σ = [some (.ref a), some (.int W), some (.ref ro), some (.ref so), some (.int turn), some (.ref fo), y6] ∧ H' ro = some (.lst ((setAll r ((fallM b W st).take k) turn).map oV)) ∧ H' so = some (.lst (st.map nV)) ∧ H' fo = some (.lst ((fallM b W st).map nV)) ∧ Ext [] H H')
          ⟨_, rfl, hR4, hS4, hF, e3⟩ (fun k σ H' _ ⟨_, _, _, _, h, _⟩ => .of h) ?_ ?_⟩
        · rintro k v σ H' hv ⟨y6, rfl, h1, h2, h2', h3⟩
          obtain ⟨f, hf, rfl⟩ := map_at hv
          refine ⟨_, rfl, _, rfl, _, rfl, ro, _, _, f, rfl, rfl, h1, ixNat ?_, _, rfl, ?_, ?_, ?_, h3.put nR⟩
          · rw [List.length_map, setAll_len, rlen]
            exact fsub f (List.mem_of_getElem? hf)
          · rw [upd_same, List.take_add_one, hf]
            show _ = some (HO.lst ((setAll r ((fallM b W st).take k ++ [f]) turn).map oV))
            rw [setAll_snoc, List.map_set]
            rfl
          · rw [upd_ne ros.symm]
            exact h2
          · rw [upd_ne rofo.symm]
            exact h2'
        · rintro σ H5 ⟨y6, rfl, h1, h2, h2', h3⟩
          rw [List.length_map, List.take_length] at h1
          -- standing
          refine ⟨_, rfl, so, rfl, ⟨_, .of h2⟩, fun s2 hs2 => ?_⟩
          have ros2 : ro ≠ s2 := ne_of_none h1 hs2
          refine filt_list (K := K) (a := so) (l := st) (fun f => !decide (f ∈ fallM b W st)) hs2 (.of h2) (by omega) (fun v => rfl) (fun v => rfl) (fun k H' hk e2 => ?_) (fun H6 hS6 e6 => ?_)
          · refine ⟨_, rfl, _, rfl, fo, _, rfl, .inl (.of (e2.at h2' (by simp))), rfl, flat_nV _, _, rfl, ?_, .refl⟩
            show (!inV (nV k) ((fallM b W st).map nV)) = _
            rw [inV_nV]
          · refine ⟨_, rfl, _, _, rfl, rfl, turn + 1, restM b W st, setAll r (fallM b W st) turn, s2, _, _, rfl, rest_len hemp, fun k hk => stlt k (List.mem_filter.mp hk).1, e6.at h1 (by simp), by rw [setAll_len]; exact rlen, hS6, ros2, fun res fin h => hrk res fin (.go hemp h), h3.trans e6⟩
theorem sc_lasting_for : FnScope ["book", "window", "rank_of", "state"] ["book", "window"] (defScope s_lasting_for) := ⟨rfl, rfl, rfl, by decide +kernel, rfl, by decide +kernel, by decide +kernel⟩
def sp_lasting_for (K : PySem.W.Frag) : Sp := fun vs H Q _ => ∃ (v : V) (b : Book) (W : Nat), vs = [v, .int W] ∧ BkV K H v b ∧ FormB b ∧ 1 ≤ W ∧ ∀ (res : List (Option Int)) (fin : List Nat) (t : Addr) (H' : Hp), LastM b W res fin → SqT K H' t ((lastL b res).map nV) → Ext [] H H' → Q (.ref t) H'
theorem ok_lasting_for (T : Tx K mg) : FnOk P w K mg base CX0 5 T.lasting_for.f T.lasting_for.fd ["book", "window"] (sp_lasting_for K) := by
  refine T.lasting_for.F.ok sc_lasting_for (fun vs H Q E h => ?_) (fun cdv A outer s H vs Q E hr h => ?_)
  · obtain ⟨v, b, W, rfl, _⟩ := h; rfl
  · obtain ⟨v, b, W, rfl, hb, fb, hW, q⟩ := h
    have h8 := fb.eight
    refine ⟨_, (pss_cons (ps_set (i := 2) sc_lasting_for.nd rfl (.inr rfl) (pe_call (ok_ranks_for T) (hr.mono (by decide)) (by rfl) T.ranks_for.g T.ranks_for.F.kp T.ranks_for.b .nil pass0 (pa_cons (pv 0) (pa_cons (pv 1) pa_nil))))
      (pss_one (ps_ret (pe_callTy call_tupZ (by rfl) T.n_tuple (by decide +kernel) (pa_cons (pe_lc (own := [("state", 3)]) rfl sc_lasting_for.nd (pi_range1 (by rfl) T.n_range (pa_cons (pe_callB call_len_seq (by rfl) T.n_len PySem.boot_len (pa_cons (pv 0) pa_nil)) pa_nil)) (blkOk_by (own := [("state", 3)]) (N := ["book", "window", "rank_of", "state"]) (sc := defScope s_lasting_for) (by decide +kernel)) (fun _ _ _ _ _ => (pg_name (i := 3) sc_lasting_for.nd rfl (.inl rfl))) (fun _ _ _ _ _ => pts_one (pt_mid (pt_cmpR op_eq (pe_ix (ix_tupK K) (pv 2) (pv 3) (fun _ _ => rfl)) (pe_un un_neg pe_int) (nomark _)))) (fun _ _ _ _ _ => (pv 3))) pa_nil))))), ?_⟩
    refine ⟨_, rfl, _, rfl, v, b, W, rfl, hb, fb, hW, fun res fin t H1 hL ht e1 => ?_⟩
    obtain ⟨a, ls, rfl, ha, hls⟩ := hb.ext0 e1
    have llen := Paired.len hls
    have rl : res.length = b.length := by rw [rk_len hL, List.length_replicate]
    refine ⟨_, rfl, a, _, rfl, .inr ha, _, rfl, by omega, by omega, fun D hD => ?_⟩
    rw [forTo llen]
    refine filt_range (fun s => decide (res[s]? = some (some (-1)))) hD (by omega) (fun v => rfl) (fun v => rfl) (fun k H' hk e => ?_) (fun H' h e => ?_)
    · have hk2 : res[k]? = some res[k] := List.getElem?_eq_getElem (by omega)
      generalize res[k] = x at hk2
      refine ⟨_, rfl, _, rfl, t, _, _, _, rfl, rfl, e.tup Lsts.nil ht, atI_nat (at_map hk2), 1, rfl, by cases x <;> rfl, _, rfl, ?_, .refl⟩
      rw [hk2]
      refine decide_eq_decide.mpr ?_
      cases x with
      | none => exact ⟨fun z => (nomatch z), fun z => (nomatch z)⟩
      | some i =>
        constructor
        · intro z
          have z : i = -1 := V.int.inj z
          rw [z]
        · intro z
          have z : i = -1 := Option.some.inj (Option.some.inj z)
          rw [z]
          rfl
    · refine ⟨D, _, rfl, .of h, fun t2 H2 ht2 hH => ?_⟩
      obtain ⟨o, _, rfl⟩ := hH
      exact q res fin t2 _ hL (.inl (.inr ⟨o, upd_same⟩)) ((e1.trans e).put2 ht2)
theorem sc_lasting : FnScope ["book", "window"] ["book", "window"] (defScope s_lasting) := ⟨rfl, rfl, rfl, by decide +kernel, rfl, by decide +kernel, by decide +kernel⟩
def sp_lasting (K : PySem.W.Frag) : Sp := fun vs H Q _ => ∃ (v : V) (b : Book) (W : Nat), vs = [v, .int W] ∧ BkV K H v b ∧ OkB b ∧ 1 ≤ W ∧ ∀ (res : List (Option Int)) (fin : List Nat) (t : Addr) (H' : Hp), LastM b W res fin → SqT K H' t ((lastL b res).map nV) → Ext [] H H' → Q (.ref t) H'
theorem ok_lasting (T : Tx K mg) : FnOk P w K mg base CX0 6 T.lasting.f T.lasting.fd ["book", "window"] (sp_lasting K) := by
  refine T.lasting.F.ok sc_lasting (fun vs H Q E h => ?_) (fun cdv A outer s H vs Q E hr h => ?_)
  · obtain ⟨v, b, W, rfl, _⟩ := h; rfl
  · obtain ⟨v, b, W, rfl, hb, ok, hW, q⟩ := h
    refine ⟨_, (pss_cons (ps_expr (pe_call (ok_made_book T) (hr.mono (by decide)) (by rfl) T.made_book.g T.made_book.F.kp T.made_book.b .nil pass0 (pa_cons (pv 0) pa_nil)))
      (pss_cons (ps_expr (pe_call (ok_check_number T) (hr.mono (by decide)) (by rfl) T.check_number.g T.check_number.F.kp T.check_number.b .nil pass0 (pa_cons (pv 1) pa_nil)))
      (pss_one (ps_ret (pe_call (ok_lasting_for T) (hr.mono (by decide)) (by rfl) T.lasting_for.g T.lasting_for.F.kp T.lasting_for.b .nil pass0 (pa_cons (pv 0) (pa_cons (pv 1) pa_nil))))))), ?_⟩
    refine ⟨_, rfl, v, b, rfl, hb, ok, fun H1 e1 => ?_⟩
    refine ⟨_, rfl, W, rfl, hW, ?_⟩
    exact ⟨_, rfl, _, rfl, v, b, W, rfl, hb.ext0 e1, ok.toFormB, hW, fun res fin t H' hL ht e => q res fin t H' hL ht (e1.trans e)⟩
theorem sc_least_for : FnScope ["book", "window"] ["book", "window"] (defScope s_least_for) := ⟨rfl, rfl, rfl, by decide +kernel, rfl, by decide +kernel, by decide +kernel⟩
def sp_least_for (K : PySem.W.Frag) : Sp := fun vs H Q _ => ∃ (v : V) (b : Book) (W : Nat), vs = [v, .int W] ∧ BkV K H v b ∧ FormB b ∧ 1 ≤ W ∧ ∀ (res : List (Option Int)) (fin : List Nat) (H' : Hp), LastM b W res fin → Ext [] H H' → Q (.int (leastM b res)) H'
theorem ok_least_for (T : Tx K mg) : FnOk P w K mg base CX0 6 T.least_for.f T.least_for.fd ["book", "window"] (sp_least_for K) := by
  refine T.least_for.F.ok sc_least_for (fun vs H Q E h => ?_) (fun cdv A outer s H vs Q E hr h => ?_)
  · obtain ⟨v, b, W, rfl, _⟩ := h; rfl
  · obtain ⟨v, b, W, rfl, hb, fb, hW, q⟩ := h
    obtain ⟨a, ls, rfl, ha, hls⟩ := id hb
    obtain ⟨res0, fin0, hL0⟩ := rk_ex b W _ 0 (forksM b) (List.replicate b.length none) (Nat.le_refl _)
    obtain ⟨u, hu, c, ps, rfl, hc, hps⟩ := Paired.get hls (mvs_lt (b := b) (s := 0) fb.one)
    refine ⟨_, (pss_cons (ps_if (pt_not (pt_truth (pe_ix ix_tup (pv 0) pe_int (fun _ _ => rfl)) (by intro _; rfl)))
        (pss_one (ps_ret pe_int))
        pss_nil)
      (pss_cons (ps_if (pt_not (pt_truth (pe_call (ok_fork_states T) (hr.mono (by decide)) (by rfl) T.fork_states.g T.fork_states.F.kp T.fork_states.b .nil pass0 (pa_cons (pv 0) pa_nil)) (by intro _; rfl)))
        (pss_one (ps_ret pe_int))
        pss_nil)
      (pss_cons (ps_if (pt_cmpR op_isN (pv 1) pe_non (nomark _))
        (pss_one ps_never)
        pss_nil)
      (pss_cons (ps_if (pt_truth (pe_call (ok_lasting_for T) (hr.mono (by decide)) (by rfl) T.lasting_for.g T.lasting_for.F.kp T.lasting_for.b .nil pass0 (pa_cons (pv 0) (pa_cons (pv 1) pa_nil))) (by intro _; rfl))
        (pss_one (ps_ret pe_int))
        pss_nil)
      (pss_one (ps_ret pe_int)))))), ?_⟩
    refine ⟨_, rfl, a, _, _, _, rfl, rfl, ha, atI_nat (j := 0) hu, _, .inr (.inl ⟨_, hc.sq, rfl⟩), ?_⟩
    show (if (!(!(ps.map V.ref).isEmpty)) = true then _ else _)
    have em : (ps.map V.ref).isEmpty = (mvs b 0).isEmpty := by
      have plen := Paired.len hps
      cases ps <;> cases h : mvs b 0 <;> rw [h] at plen <;> simp at plen <;> rfl
    rw [em, Bool.not_not]
    refine ifB (fun z => ?_) (fun z => ?_)
    · have z : mvs b 0 = [] := List.isEmpty_iff.mp z
      have := q res0 fin0 H hL0 .refl
      unfold leastM at this
      rw [if_pos z] at this
      exact this
    · have z : mvs b 0 ≠ [] := fun y => by rw [y] at z; cases z
      refine ⟨_, rfl, .ref a, b, rfl, hb, fb.eight, fun t H1 ht e1 => ⟨_, .inr (.inl ⟨_, ht, rfl⟩), ?_⟩⟩
      show (if (!(!((forksM b).map nV).isEmpty)) = true then _ else _)
      have em : ((forksM b).map nV).isEmpty = (forksM b).isEmpty := by cases forksM b <;> rfl
      rw [em, Bool.not_not]
      refine ifB (fun y => ?_) (fun y => ?_)
      · have y : forksM b = [] := List.isEmpty_iff.mp y
        have := q res0 fin0 H1 hL0 e1
        unfold leastM at this
        rw [if_neg z, if_pos y] at this
        exact this
      · have y : forksM b ≠ [] := fun x => by rw [x] at y; cases y
        refine ⟨_, rfl, rfl, _, rfl, ?_⟩
        rw [decide_eq_false (by intro z; cases z)]
        refine iteF ⟨_, rfl, _, rfl, .ref a, b, W, rfl, hb.ext0 e1, fb, hW, fun res fin t2 H2 hL ht2 e2 => ⟨_, .inr (.inl ⟨_, ht2, rfl⟩), ?_⟩⟩
        show (if (!((lastL b res).map nV).isEmpty) = true then _ else _)
        have em : ((lastL b res).map nV).isEmpty = (lastL b res).isEmpty := by cases lastL b res <;> rfl
        rw [em]
        have := q res fin H2 hL (e1.trans e2)
        unfold leastM at this
        rw [if_neg z, if_neg y] at this
        by_cases x : lastL b res = []
        · rw [if_pos x] at this
          rw [x]
          exact iteF this
        · rw [if_neg x] at this
          have : (lastL b res).isEmpty = false := by cases h : lastL b res with | nil => exact absurd h x | cons _ _ => rfl
          rw [this]
          refine iteT ?_
          assumption
theorem sc_least_wires : FnScope ["book", "window"] ["book", "window"] (defScope s_least_wires) := ⟨rfl, rfl, rfl, by decide +kernel, rfl, by decide +kernel, by decide +kernel⟩
def sp_least_wires (K : PySem.W.Frag) : Sp := fun vs H Q _ => ∃ (v : V) (b : Book) (W : Nat), vs = [v, .int W] ∧ BkV K H v b ∧ OkB b ∧ 1 ≤ W ∧ ∀ (res : List (Option Int)) (fin : List Nat) (H' : Hp), LastM b W res fin → Ext [] H H' → Q (.int (leastM b res)) H'
theorem ok_least_wires (T : Tx K mg) : FnOk P w K mg base CX0 7 T.least_wires.f T.least_wires.fd ["book", "window"] (sp_least_wires K) := by
  refine T.least_wires.F.ok sc_least_wires (fun vs H Q E h => ?_) (fun cdv A outer s H vs Q E hr h => ?_)
  · obtain ⟨v, b, W, rfl, _⟩ := h; rfl
  · obtain ⟨v, b, W, rfl, hb, ok, hW, q⟩ := h
    refine ⟨_, (pss_cons (ps_expr (pe_call (ok_made_book T) (hr.mono (by decide)) (by rfl) T.made_book.g T.made_book.F.kp T.made_book.b .nil pass0 (pa_cons (pv 0) pa_nil)))
      (pss_cons (ps_expr (pe_call (ok_made_window T) (hr.mono (by decide)) (by rfl) T.made_window.g T.made_window.F.kp T.made_window.b .nil pass0 (pa_cons (pv 1) pa_nil)))
      (pss_one (ps_ret (pe_call (ok_least_for T) (hr.mono (by decide)) (by rfl) T.least_for.g T.least_for.F.kp T.least_for.b .nil pass0 (pa_cons (pv 0) (pa_cons (pv 1) pa_nil))))))), ?_⟩
    refine ⟨_, rfl, v, b, rfl, hb, ok, fun H1 e1 => ?_⟩
    refine ⟨_, rfl, W, rfl, hW, ?_⟩
    exact ⟨_, rfl, _, rfl, v, b, W, rfl, hb.ext0 e1, ok.toFormB, hW, fun res fin H' hL e => q res fin H' hL (e1.trans e)⟩
theorem sc_from_window : FnScope ["book", "window"] ["book"] (defScope s_from_window) := ⟨rfl, rfl, rfl, by decide +kernel, rfl, by decide +kernel, by decide +kernel⟩
def sp_from_window (K : PySem.W.Frag) : Sp := fun vs H Q _ => ∃ (v : V) (b : Book), vs = [v] ∧ BkV K H v b ∧ OkB b ∧ ∀ (o : Option Nat) (H' : Hp), FromW b o → Ext [] H H' → Q (oN o) H'
theorem ok_from_window (T : Tx K mg) : FnOk P w K mg base CX0 7 T.from_window.f T.from_window.fd ["book"] (sp_from_window K) := by
  refine T.from_window.F.ok sc_from_window (fun vs H Q E h => ?_) (fun cdv A outer s H vs Q E hr h => ?_)
  · obtain ⟨v, b, rfl, _⟩ := h; rfl
  · obtain ⟨v, b, rfl, hb, ok, q⟩ := h
    refine ⟨_, (pss_cons (ps_expr (pe_call (ok_made_book T) (hr.mono (by decide)) (by rfl) T.made_book.g T.made_book.F.kp T.made_book.b .nil pass0 (pa_cons (pv 0) pa_nil)))
      (pss_cons (ps_for PassesOwn.never rfl (pi_range2 (by rfl) T.n_range (pa_cons pe_int (pa_cons (pe_op op_add (pe_glob (v := .int 9) (by rfl) T.c_LAST_WINDOW.choose_spec ⟨_, rfl⟩) pe_int) pa_nil))) (pg_name (i := 1) sc_from_window.nd rfl (.inl rfl))
        (pss_one (ps_if (pt_cmpR op_eq (pe_call (ok_least_for T) (hr.mono (by decide)) (by rfl) T.least_for.g T.least_for.F.kp T.least_for.b .nil pass0 (pa_cons (pv 0) (pa_cons (pv 1) pa_nil))) pe_int (nomark _))
          (pss_one (ps_ret (pv 1)))
          pss_nil)))
      (pss_one (ps_ret pe_non)))), ?_⟩
    refine ⟨_, rfl, v, b, rfl, hb, ok, fun H1 e1 => ?_⟩
    refine ⟨_, _, rfl, rfl, 1, 10, rfl, ⟨by decide, by decide, by decide, by decide⟩, for_range (lo := 1) (n := 9) (fun i σ H' => (∃ y : Option V, σ = [some v, y]) ∧ (∀ V, 1 ≤ V → V ≤ i → ∀ res fin, LastM b V res fin → leastM b res ≠ 3) ∧ Ext [] H H') ⟨⟨_, rfl⟩, fun V h1 h2 => by omega, e1⟩ ?_ ?_⟩
    · rintro i σ H' hi ⟨⟨y, rfl⟩, hno, e⟩
      have ei : (1 : Int) + (i : Int) = ((i + 1 : Nat) : Int) := by omega
      rw [ei]
      refine ⟨_, rfl, _, rfl, v, b, i + 1, rfl, hb.ext0 e, ok.toFormB, by omega, fun res fin H2 hL e2 => ⟨rfl, _, rfl, ?_⟩⟩
      have hd : decide (V.int (leastM b res : Nat) = V.int 3) = decide (leastM b res = 3) := by
        rw [dec_int]
        refine decide_eq_decide.mpr ?_
        omega
      rw [hd]
      refine ite2 (fun z => ?_) (fun z => ?_)
      · have z := of_decide_eq_true z
        exact ⟨_, rfl, q (some (i + 1)) H2 ⟨by omega, by omega, ⟨res, fin, hL, z⟩, fun V h1 h2 => hno V h1 (by omega)⟩ (e.trans e2)⟩
      · have z : ¬ leastM b res = 3 := fun y => z (decide_eq_true y)
        refine ⟨⟨_, rfl⟩, fun V h1 h2 res' fin' hL' => ?_, e.trans e2⟩
        by_cases h : V ≤ i
        · exact hno V h1 h res' fin' hL'
        · have : V = i + 1 := by omega
          subst this
          rw [← (rk_fun hL hL').1]
          exact z
    · rintro σ H' ⟨⟨y, rfl⟩, hno, e⟩
      exact q none H' hno e
end
end Nv
set_option linter.all false
namespace Nv
/-! ### states on rings -/
def ringsM (b : Book) : List Nat := (List.range b.length).filter fun s => decide (0 < waysM b s)
def ringForksM (b : Book) : List Nat := (forksM b).filter fun s => decide (s ∈ ringsM b)
end Nv
set_option linter.all false
namespace Nv
/-! ### ends, level by level -/
def nextL (b : Book) (L : List Nat) : List Nat := (List.range b.length).filter fun k => L.any fun j => (mvs b j).any fun p => p.2 == k
def exL (b : Book) (s : Nat) : Nat → List Nat
  | 0 => [s]
  | n + 1 => nextL b (exL b s n)
def endsL (b : Book) (s m : Nat) : List Nat := if m = 0 then [] else wiL b s (m - 1)
theorem any_mv {b : Book} {L : List Nat} {k : Nat} : (L.any fun j => (mvs b j).any fun p => p.2 == k) = true ↔ ∃ j ∈ L, ∃ p ∈ mvs b j, p.2 = k := by
  rw [List.any_eq_true]
  constructor
  · rintro ⟨j, hj, h⟩
    obtain ⟨p, hp, e⟩ := List.any_eq_true.mp h
    exact ⟨j, hj, p, hp, by simpa using e⟩
  · rintro ⟨j, hj, p, hp, e⟩
    exact ⟨j, hj, List.any_eq_true.mpr ⟨p, hp, by simpa using e⟩⟩
theorem mem_next {b : Book} (fb : FormB b) {L : List Nat} {k : Nat} : k ∈ nextL b L ↔ ∃ j ∈ L, ∃ p ∈ mvs b j, p.2 = k := by
  unfold nextL
  rw [mem_filt, any_mv]
  constructor
  · exact fun h => h.2
  · rintro ⟨j, hj, p, hp, e⟩
    exact ⟨by rw [← e]; exact fb.to hp, j, hj, p, hp, e⟩
theorem mem_step {b : Book} (fb : FormB b) {L : List Nat} (hL : ∀ k ∈ L, k < b.length) {k : Nat} : k ∈ stepL b L ↔ k ∈ L ∨ ∃ j ∈ L, ∃ p ∈ mvs b j, p.2 = k := by
  unfold stepL nextB
  rw [mem_filt, Bool.or_eq_true, decide_eq_true_eq, any_mv]
  constructor
  · exact fun h => h.2
  · rintro (h | ⟨j, hj, p, hp, e⟩)
    · exact ⟨hL k h, .inl h⟩
    · exact ⟨by rw [← e]; exact fb.to hp, .inr ⟨j, hj, p, hp, e⟩⟩
theorem exL_srt (b : Book) (s : Nat) : ∀ n, (exL b s n).Pairwise (· < ·)
  | 0 => by simp [exL]
  | n + 1 => filt_srt _ _
theorem exL_lt {b : Book} {s : Nat} (hs : s < b.length) : ∀ n, ∀ k ∈ exL b s n, k < b.length
  | 0, k, hk => by rw [List.mem_singleton.mp hk]; exact hs
  | n + 1, k, hk => (mem_filt.mp hk).1
theorem exL_len {b : Book} {s : Nat} (hs : s < b.length) (n : Nat) : (exL b s n).length ≤ b.length := nodup_le (srt_nodup (exL_srt b s n)) (exL_lt hs n)
theorem wi_ex {b : Book} (fb : FormB b) {s : Nat} (hs : s < b.length) : ∀ (n k : Nat), k ∈ wiL b s n ↔ ∃ j, j ≤ n ∧ k ∈ exL b s j := by
  intro n
  induction n with
  | zero =>
    intro k
    constructor
    · exact fun h => ⟨0, Nat.le_refl _, h⟩
    · rintro ⟨j, hj, h⟩
      have : j = 0 := by omega
      subst this
      exact h
  | succ n ih =>
    intro k
    show k ∈ stepL b (wiL b s n) ↔ _
    rw [mem_step fb (wiL_lt hs n)]
    constructor
    · rintro (h | ⟨x, hx, p, hp, e⟩)
      · obtain ⟨j, hj, h⟩ := (ih k).mp h
        exact ⟨j, by omega, h⟩
      · obtain ⟨j, hj, h⟩ := (ih x).mp hx
        exact ⟨j + 1, by omega, (mem_next fb).mpr ⟨x, h, p, hp, e⟩⟩
    · rintro ⟨j, hj, h⟩
      by_cases hjn : j ≤ n
      · exact .inl ((ih k).mpr ⟨j, hjn, h⟩)
      · have : j = n + 1 := by omega
        subst this
        obtain ⟨x, hx, p, hp, e⟩ := (mem_next fb).mp h
        exact .inr ⟨x, (ih x).mpr ⟨n, Nat.le_refl _, hx⟩, p, hp, e⟩
theorem mem_ends {b : Book} (fb : FormB b) {s : Nat} (hs : s < b.length) {m k : Nat} : k ∈ endsL b s m ↔ ∃ j, j < m ∧ k ∈ exL b s j := by
  unfold endsL
  split
  · rename_i h
    constructor
    · intro z; cases z
    · rintro ⟨j, hj, _⟩; omega
  · rw [wi_ex fb hs]
    constructor
    · rintro ⟨j, hj, h⟩
      exact ⟨j, by omega, h⟩
    · rintro ⟨j, hj, h⟩
      exact ⟨j, by omega, h⟩
theorem endsL_srt (b : Book) (s m : Nat) : (endsL b s m).Pairwise (· < ·) := by
  unfold endsL
  split
  · exact .nil
  · exact wiL_srt _ _ _
theorem endsL_lt {b : Book} {s m : Nat} (hs : s < b.length) : ∀ k ∈ endsL b s m, k < b.length := by
  unfold endsL
  split
  · intro k hk; cases hk
  · exact wiL_lt hs _
theorem endsL_len {b : Book} {s m : Nat} (hs : s < b.length) : (endsL b s m).length ≤ b.length := nodup_le (srt_nodup (endsL_srt b s m)) (endsL_lt hs)
/-! ### steps of any number -/
inductive Rt (b : Book) : Nat → Nat → Prop
  | refl (s : Nat) : Rt b s s
  | step {s k : Nat} {p : Nat × Nat} : Rt b s k → p ∈ mvs b k → Rt b s p.2
theorem Rt.trans {b : Book} {x y z : Nat} (h : Rt b x y) (k : Rt b y z) : Rt b x z := by
  induction k with
  | refl => exact h
  | step _ hp ih => exact ih.step hp
theorem Rt.one {b : Book} {x : Nat} {p : Nat × Nat} (hp : p ∈ mvs b x) : Rt b x p.2 := (Rt.refl x).step hp
theorem wi_mono {b : Book} (fb : FormB b) {s : Nat} (hs : s < b.length) {n m : Nat} (h : n ≤ m) {k : Nat} (hk : k ∈ wiL b s n) : k ∈ wiL b s m := by
  obtain ⟨j, hj, e⟩ := (wi_ex fb hs n k).mp hk
  exact (wi_ex fb hs m k).mpr ⟨j, by omega, e⟩
theorem wi_rt {b : Book} (fb : FormB b) {s : Nat} (hs : s < b.length) : ∀ (n k : Nat), k ∈ wiL b s n → Rt b s k := by
  intro n
  induction n with
  | zero => intro k hk; rw [List.mem_singleton.mp hk]; exact .refl s
  | succ n ih =>
    intro k hk
    rcases (mem_step fb (wiL_lt hs n)).mp hk with h | ⟨x, hx, p, hp, e⟩
    · exact ih k h
    · rw [← e]
      exact (ih x hx).step hp
/-- it stays as it is, or grows -/
theorem wi_grow {b : Book} (fb : FormB b) {s : Nat} (hs : s < b.length) : ∀ n, n + 1 ≤ (wiL b s n).length ∨ ∀ m, n ≤ m → wiL b s m = wiL b s n := by
  intro n
  induction n with
  | zero => exact .inl (by simp [wiL])
  | succ n ih =>
    rcases ih with h | h
    · by_cases e : wiL b s (n + 1) = wiL b s n
      · refine .inr fun m hm => ?_
        have key : ∀ d, wiL b s (n + 1 + d) = wiL b s (n + 1) := by
          intro d
          induction d with
          | zero => rfl
          | succ d ih2 =>
            show stepL b (wiL b s (n + 1 + d)) = _
            rw [ih2, e]
            exact e
        have : m = n + 1 + (m - (n + 1)) := by omega
        rw [this]
        exact key _
      · refine .inl ?_
        have sub : ∀ k ∈ wiL b s n, k ∈ wiL b s (n + 1) := fun k hk => wi_mono fb hs (by omega) hk
        have le := List.Nodup.length_le_of_subset (srt_nodup (wiL_srt b s n)) sub
        by_cases eq : (wiL b s n).length = (wiL b s (n + 1)).length
        · exfalso
          refine e (srt_eq (wiL_srt _ _ _) (wiL_srt _ _ _) fun k => ⟨fun hk => ?_, sub k⟩)
          by_cases hin : k ∈ wiL b s n
          · exact hin
          · exfalso
            have nd : (k :: wiL b s n).Nodup := List.nodup_cons.mpr ⟨hin, srt_nodup (wiL_srt b s n)⟩
            have := List.Nodup.length_le_of_subset nd (l₂ := wiL b s (n + 1)) (fun z hz => by
              rcases List.mem_cons.mp hz with hz | hz
              · rw [hz]; exact hk
              · exact sub z hz)
            rw [List.length_cons] at this
            omega
        · omega
    · refine .inr fun m hm => ?_
      rw [h m (by omega), h (n + 1) (by omega)]
/-- within one step less than there are states all is met -/
theorem wi_full {b : Book} (fb : FormB b) {s : Nat} (hs : s < b.length) : ∀ m, b.length - 1 ≤ m → wiL b s m = wiL b s (b.length - 1) := by
  have h1 := fb.one
  rcases wi_grow fb hs (b.length - 1) with h | h
  · intro m hm
    have full : ∀ m, b.length - 1 ≤ m → ∀ k, k ∈ wiL b s m ↔ k < b.length := by
      intro m hm k
      refine ⟨fun hk => wiL_lt hs m k hk, fun hk => ?_⟩
      by_cases hin : k ∈ wiL b s m
      · exact hin
      · exfalso
        have hk2 : k ∉ wiL b s (b.length - 1) := fun z => hin (wi_mono fb hs hm z)
        have nd : (k :: wiL b s (b.length - 1)).Nodup := List.nodup_cons.mpr ⟨hk2, srt_nodup (wiL_srt b s _)⟩
        have := nodup_le (n := b.length) nd (fun z hz => by
          rcases List.mem_cons.mp hz with hz | hz
          · rw [hz]; exact hk
          · exact wiL_lt hs _ z hz)
        rw [List.length_cons] at this
        omega
    refine srt_eq (wiL_srt _ _ _) (wiL_srt _ _ _) fun k => ?_
    rw [full m hm, full _ (Nat.le_refl _)]
  · exact h
theorem rt_wi {b : Book} (fb : FormB b) {s k : Nat} (hs : s < b.length) (h : Rt b s k) : k ∈ wiL b s (b.length - 1) := by
  induction h with
  | refl => exact wi_mono fb hs (Nat.zero_le _) (by simp [wiL])
  | step h hp ih =>
    rw [← wi_full fb hs (b.length - 1 + 1) (by omega)]
    exact (mem_step fb (wiL_lt hs _)).mpr (.inr ⟨_, ih, _, hp, rfl⟩)
theorem mem_wi {b : Book} (fb : FormB b) {s k m : Nat} (hs : s < b.length) (hm : b.length - 1 ≤ m) : k ∈ wiL b s m ↔ Rt b s k := by
  rw [wi_full fb hs m hm]
  exact ⟨fun h => wi_rt fb hs _ k h, rt_wi fb hs⟩
/-- the law's knots -/
def backM (b : Book) (s : Nat) : Nat := ((mvs b s).filter fun p => decide (s ∈ endsL b p.2 8)).length
theorem back_ways {b : Book} (fb : FormB b) (s : Nat) : backM b s = waysM b s := by
  unfold backM waysM
  congr 1
  refine List.filter_congr fun p hp => decide_eq_decide.mpr ?_
  have hp2 := fb.to hp
  have h8 := fb.eight
  show s ∈ wiL b p.2 7 ↔ s ∈ wiL b p.2 (min b.length b.length)
  rw [mem_wi fb hp2 (by omega), mem_wi fb hp2 (by omega)]
theorem knots_law {b : Book} (fb : FormB b) : (List.range b.length).filter (fun s => decide (1 < backM b s)) = knotsM b := by
  unfold knotsM
  refine List.filter_congr fun s _ => ?_
  rw [back_ways fb]
end Nv
set_option Elab.async false
set_option linter.all false
set_option maxRecDepth 100000
namespace Nv
open PySem PySem.Spec PyProof.Rows L2
section
variable {P : Program} {w : World} {K : PySem.W.Frag} {mg : Str → Option Value} {base : Heap}
/-! ### the law's own ends -/
/-! ### the law's own ways back -/
/-! ### the least numbers of ways back -/
def firstM (b : Book) (s t : Nat) : List Nat := ((List.range' 1 b.length).filter fun m => decide (s ∈ endsL b t m)).take 1
def backsM (b : Book) (s : Nat) (st : State) : List Nat := st.flatMap fun p => firstM b s p.2
theorem backs_len (b : Book) (s : Nat) : ∀ st : State, (backsM b s st).length ≤ st.length
  | [] => Nat.le_refl _
  | p :: r => by
    have := backs_len b s r
    have f1 : (firstM b s p.2).length ≤ 1 := by unfold firstM; rw [List.length_take]; omega
    show ((firstM b s p.2) ++ backsM b s r).length ≤ r.length + 1
    rw [List.length_append]
    omega
theorem cut1 (xs : List V) : cutV xs none (some 1) = xs.take 1 := by
  unfold cutV
  cases xs with
  | nil => simp
  | cons x r => simp [HT.sIx]
theorem sorted_natsD {F : List Nat} {ns : List Int} (p : ns.Perm (F.map fun n : Nat => (n : Int))) (r : ns.Pairwise (· ≤ ·)) : ∃ ms : List Nat, ns.map V.int = ms.map nV ∧ ms.Perm F ∧ ms.Pairwise (· ≤ ·) := by
  have nn : ∀ z ∈ ns, ∃ n : Nat, z = (n : Int) := fun z hz => by
    obtain ⟨n, _, rfl⟩ := List.mem_map.mp (p.mem_iff.mp hz)
    exact ⟨n, rfl⟩
  refine ⟨ns.map Int.toNat, ?_, ?_, ?_⟩
  · rw [List.map_map]
    refine List.map_congr_left fun z hz => ?_
    obtain ⟨n, rfl⟩ := nn z hz
    rfl
  · have q := p.map Int.toNat
    rw [List.map_map] at q
    have e : F.map (Int.toNat ∘ fun n : Nat => (n : Int)) = F := by
      conv => rhs; rw [← List.map_id F]
      exact List.map_congr_left fun z _ => rfl
    rw [e] at q
    exact q
  · rw [List.pairwise_map]
    refine List.Pairwise.imp_of_mem (fun {a b} ha hb h => ?_) r
    obtain ⟨n, rfl⟩ := nn a ha
    obtain ⟨m, rfl⟩ := nn b hb
    simp
    omega
end
end Nv
set_option linter.all false
namespace Nv
/-! ### what lasts -/
theorem setAll_get : ∀ (L : List Nat) (r : List (Option Int)) (x : Int) (k : Nat), (setAll r L x)[k]? = if k ∈ L ∧ k < r.length then some (some x) else r[k]?
  | [], r, x, k => by simp [setAll]
  | f :: L, r, x, k => by
    show (setAll (r.set f (some x)) L x)[k]? = _
    rw [setAll_get L, List.length_set]
    by_cases h1 : k < r.length
    · by_cases h2 : k ∈ L
      · simp [h1, h2]
      · by_cases h3 : k = f
        · subst h3
          simp [h1, h2]
        · have : ¬ f = k := fun z => h3 z.symm
          simp [h1, h2, h3, this]
    · have : r[k]? = none := List.getElem?_eq_none (by omega)
      simp [h1, this]
theorem rk_sub {b : Book} {W t : Nat} {st fin : List Nat} {r res : List (Option Int)} (h : Rk b W t st r res fin) : ∀ k ∈ fin, k ∈ st := by
  induction h with
  | stop _ => exact fun k hk => hk
  | go _ _ ih => exact fun k hk => (List.mem_filter.mp (ih k hk)).1
theorem rk_stable {b : Book} {W t : Nat} {st fin : List Nat} {r res : List (Option Int)} (h : Rk b W t st r res fin) : ∀ s ∈ fin, 2 ≤ (leadM b W s fin).length := by
  induction h with
  | @stop t st r e =>
    intro s hs
    by_cases h : 2 ≤ (leadM b W s st).length
    · exact h
    · exfalso
      have : s ∈ fallM b W st := List.mem_filter.mpr ⟨hs, decide_eq_true (Nat.lt_of_not_le h)⟩
      rw [e] at this
      cases this
  | go _ _ ih => exact ih
theorem rk_stay {b : Book} {W t : Nat} {st fin : List Nat} {r res : List (Option Int)} (h : Rk b W t st r res fin) {s : Nat} (hs : s ∈ st) (two : ∀ goals : List Nat, s ∈ goals → 2 ≤ (leadM b W s goals).length) : s ∈ fin := by
  induction h with
  | stop _ => exact hs
  | @go t st fin r res _ _ ih =>
    refine ih (List.mem_filter.mpr ⟨hs, ?_⟩)
    have : s ∉ fallM b W st := fun z => by
      have := of_decide_eq_true (List.mem_filter.mp z).2
      have := two st hs
      omega
    rw [decide_eq_false this]
    rfl
theorem rk_fin {b : Book} {W t : Nat} {st fin : List Nat} {r res : List (Option Int)} (h : Rk b W t st r res fin) : (∀ k ∈ st, k < r.length) → (∀ k, k ∉ st → r[k]? ≠ some (some (-1))) → ∀ k, res[k]? = some (some (-1)) ↔ k ∈ fin := by
  induction h with
  | @stop t st r _ =>
    intro h1 h2 k
    rw [setAll_get]
    by_cases hk : k ∈ st
    · rw [if_pos ⟨hk, h1 k hk⟩]
      exact ⟨fun _ => hk, fun _ => rfl⟩
    · rw [if_neg (fun z => hk z.1)]
      exact ⟨fun z => absurd z (h2 k hk), fun z => absurd z hk⟩
  | @go t st fin r res _ _ ih =>
    intro h1 h2
    refine ih (fun k hk => by rw [setAll_len]; exact h1 k (List.mem_filter.mp hk).1) fun k hk => ?_
    rw [setAll_get]
    by_cases hf : k ∈ fallM b W st
    · have := h1 k (List.mem_filter.mp hf).1
      rw [if_pos ⟨hf, this⟩]
      intro z
      have := Option.some.inj (Option.some.inj z)
      omega
    · rw [if_neg (fun z => hf z.1)]
      refine h2 k fun z => hk (List.mem_filter.mpr ⟨z, ?_⟩)
      rw [decide_eq_false hf]
      rfl
theorem forks_lt {b : Book} {k : Nat} (h : k ∈ forksM b) : k < b.length := (mem_filt.mp h).1
theorem last_iff {b : Book} {W : Nat} {res : List (Option Int)} {fin : List Nat} (h : LastM b W res fin) (k : Nat) : k ∈ lastL b res ↔ k ∈ fin := by
  have key := rk_fin h (fun k hk => by rw [List.length_replicate]; exact forks_lt hk) (fun k _ z => by
    by_cases hk : k < b.length
    · rw [List.getElem?_replicate, if_pos hk] at z
      cases z
    · rw [List.getElem?_replicate, if_neg hk] at z
      cases z) k
  unfold lastL
  rw [mem_filt, decide_eq_true_eq, key]
  exact ⟨fun z => z.2, fun z => ⟨forks_lt (rk_sub h k z), z⟩⟩
theorem last_nil {b : Book} {W : Nat} {res : List (Option Int)} {fin : List Nat} (h : LastM b W res fin) : lastL b res = [] ↔ fin = [] := by
  constructor
  · intro e
    rw [List.eq_nil_iff_forall_not_mem]
    exact fun k hk => by have := (last_iff h k).mpr hk; rw [e] at this; cases this
  · intro e
    rw [List.eq_nil_iff_forall_not_mem]
    exact fun k hk => by have := (last_iff h k).mp hk; rw [e] at this; cases this
theorem least_two {b : Book} {res : List (Option Int)} (h : lastL b res = []) : leastM b res ≤ 2 := by
  unfold leastM
  split
  · omega
  · split
    · omega
    · simp [h]
theorem least_three {b : Book} {res : List (Option Int)} (h : leastM b res = 3) : lastL b res ≠ [] := fun e => by
  have := least_two e
  omega
/-! ### a stable set has a knot -/
theorem filt_le {α : Type} {l : List α} {f g : α → Bool} (h : ∀ x ∈ l, f x = true → g x = true) : (l.filter f).length ≤ (l.filter g).length := by
  rw [← List.countP_eq_length_filter, ← List.countP_eq_length_filter]
  exact List.countP_mono_left h
theorem led_rt {b : Book} (fb : FormB b) {t m k : Nat} (ht : t < b.length) (h : k ∈ ledL b t m) : Rt b t k := by
  unfold ledL at h
  split at h
  · cases h
  · exact wi_rt fb ht _ _ h
theorem clo_le {b : Book} (fb : FormB b) {s x : Nat} (hs : s < b.length) (hx : x < b.length) (h1 : Rt b s x) (h2 : ¬ Rt b x s) : (wiL b x (b.length - 1)).length < (wiL b s (b.length - 1)).length := by
  have nd : (s :: wiL b x (b.length - 1)).Nodup := List.nodup_cons.mpr ⟨fun z => h2 (wi_rt fb hx _ _ z), srt_nodup (wiL_srt _ _ _)⟩
  have := List.Nodup.length_le_of_subset nd (l₂ := wiL b s (b.length - 1)) fun z hz => by
    rcases List.mem_cons.mp hz with hz | hz
    · rw [hz]; exact rt_wi fb hs (.refl s)
    · exact rt_wi fb hs (h1.trans (wi_rt fb hx _ _ hz))
  rw [List.length_cons] at this
  omega
theorem bottom {b : Book} (fb : FormB b) {S : List Nat} (hS : ∀ k ∈ S, k < b.length) : ∀ (m s : Nat), s ∈ S → (wiL b s (b.length - 1)).length ≤ m → ∃ s' ∈ S, ∀ x ∈ S, Rt b s' x → Rt b x s' := by
  intro m
  induction m with
  | zero =>
    intro s hs h
    have := rt_wi fb (hS s hs) (.refl s)
    have := List.length_pos_of_mem this
    omega
  | succ m ih =>
    intro s hs h
    by_cases all : ∀ x ∈ S, Rt b s x → Rt b x s
    · exact ⟨s, hs, all⟩
    · obtain ⟨x, hx⟩ := Classical.not_forall.mp all
      obtain ⟨hxS, hx⟩ := Classical.not_imp.mp hx
      obtain ⟨h1, h2⟩ := Classical.not_imp.mp hx
      have := clo_le fb (hS s hs) (hS x hxS) h1 h2
      exact ih x hxS (by omega)
theorem mem_reach {b : Book} (fb : FormB b) {t k : Nat} (ht : t < b.length) : k ∈ reachL b t b.length ↔ Rt b t k := by
  unfold reachL
  exact mem_wi fb ht (by omega)
theorem stable_knot {b : Book} (fb : FormB b) {W : Nat} {S : List Nat} (hS : ∀ k ∈ S, k < b.length) (ne : S ≠ []) (st : ∀ s ∈ S, 2 ≤ (leadM b W s S).length) : knotsM b ≠ [] := by
  obtain ⟨s0, h0⟩ := List.exists_mem_of_ne_nil _ ne
  obtain ⟨s, hs, hb⟩ := bottom fb hS _ s0 h0 (Nat.le_refl _)
  have two := st s hs
  have : s ∈ knotsM b := by
    refine mem_filt.mpr ⟨hS s hs, decide_eq_true ?_⟩
    refine Nat.lt_of_lt_of_le two ?_
    unfold leadM waysM
    rw [List.length_map]
    refine filt_le fun p hp h => ?_
    obtain ⟨k, hk, hkS⟩ := List.any_eq_true.mp h
    have hkS := of_decide_eq_true hkS
    have hp2 := fb.to hp
    have r := led_rt fb hp2 hk
    exact decide_eq_true ((mem_reach fb hp2).mpr (r.trans (hb k hkS ((Rt.one hp).trans r))))
  exact List.ne_nil_of_mem this
theorem no_knots {b : Book} (fb : FormB b) (h : knotsM b = []) {W : Nat} {res : List (Option Int)} {fin : List Nat} (hL : LastM b W res fin) : lastL b res = [] := by
  rw [last_nil hL]
  by_cases e : fin = []
  · exact e
  · exact absurd h (stable_knot fb (fun k hk => forks_lt (rk_sub hL k hk)) e (rk_stable hL))
theorem win_one {b : Book} {res : List (Option Int)} {fin : List Nat} (hL : LastM b 1 res fin) : lastL b res = [] := by
  rw [last_nil hL, List.eq_nil_iff_forall_not_mem]
  intro k hk
  have := rk_stable hL k hk
  have e : leadM b 1 k fin = [] := by
    unfold leadM
    have : (mvs b k).filter (fun p => (ledL b p.2 (1 - 1)).any fun k => decide (k ∈ fin)) = [] := List.filter_eq_nil_iff.mpr fun p _ => by simp [ledL]
    rw [this]
    rfl
  rw [e] at this
  simp at this
/-! ### a knot lasts for the window behind its second shortest way back -/
theorem ends_mono {b : Book} (fb : FormB b) {t : Nat} (ht : t < b.length) {m n k : Nat} (h : m ≤ n) (hk : k ∈ endsL b t m) : k ∈ endsL b t n := by
  obtain ⟨j, hj, e⟩ := (mem_ends fb ht).mp hk
  exact (mem_ends fb ht).mpr ⟨j, by omega, e⟩
theorem first_mem {b : Book} {s t k : Nat} (h : k ∈ firstM b s t) : 1 ≤ k ∧ k ≤ b.length ∧ s ∈ endsL b t k := by
  unfold firstM at h
  have h := List.mem_filter.mp (List.mem_of_mem_take h)
  have h1 := List.mem_range'_1.mp h.1
  exact ⟨h1.1, by omega, of_decide_eq_true h.2⟩
theorem first_some {b : Book} (fb : FormB b) {s t : Nat} (ht : t < b.length) (h : Rt b t s) : (firstM b s t).length = 1 := by
  have h1 := fb.one
  have hm : b.length ∈ (List.range' 1 b.length).filter fun m => decide (s ∈ endsL b t m) := by
    refine List.mem_filter.mpr ⟨List.mem_range'_1.mpr ⟨h1, by omega⟩, decide_eq_true ?_⟩
    unfold endsL
    rw [if_neg (by omega)]
    exact rt_wi fb ht h
  have := List.length_pos_of_mem hm
  unfold firstM
  rw [List.length_take]
  omega
theorem backs_ge {b : Book} (fb : FormB b) (s : Nat) : ∀ st : State, (∀ p ∈ st, p.2 < b.length) → (st.filter fun p => decide (s ∈ reachL b p.2 b.length)).length ≤ (backsM b s st).length
  | [], _ => Nat.le_refl _
  | p :: r, h => by
    have ih := backs_ge fb s r fun q hq => h q (List.mem_cons_of_mem _ hq)
    have hp := h p (by simp)
    show _ ≤ ((firstM b s p.2) ++ backsM b s r).length
    rw [List.length_append, List.filter_cons]
    by_cases e : s ∈ reachL b p.2 b.length
    · have := first_some fb hp ((mem_reach fb hp).mp e)
      rw [if_pos (decide_eq_true e), List.length_cons]
      omega
    · rw [if_neg (by simpa using e)]
      omega
theorem backs_le {b : Book} (fb : FormB b) (s m : Nat) : ∀ st : State, (∀ p ∈ st, p.2 < b.length) → (backsM b s st).countP (fun k => decide (k ≤ m)) ≤ (st.filter fun p => decide (s ∈ endsL b p.2 m)).length
  | [], _ => Nat.le_refl _
  | p :: r, h => by
    have ih := backs_le fb s m r fun q hq => h q (List.mem_cons_of_mem _ hq)
    have hp := h p (by simp)
    show ((firstM b s p.2) ++ backsM b s r).countP _ ≤ _
    rw [List.countP_append, List.filter_cons]
    by_cases e : s ∈ endsL b p.2 m
    · rw [if_pos (decide_eq_true e), List.length_cons]
      have : (firstM b s p.2).countP (fun k => decide (k ≤ m)) ≤ 1 := Nat.le_trans List.countP_le_length (by unfold firstM; rw [List.length_take]; omega)
      omega
    · rw [if_neg (by simpa using e)]
      have : (firstM b s p.2).countP (fun k => decide (k ≤ m)) = 0 := by
        rw [List.countP_eq_zero]
        intro k hk z
        have z := of_decide_eq_true z
        exact e (ends_mono fb hp z (first_mem hk).2.2)
      omega
theorem backs_mem {b : Book} {s k : Nat} {st : State} (h : k ∈ backsM b s st) : 1 ≤ k ∧ k ≤ b.length := by
  obtain ⟨p, _, hp⟩ := List.mem_flatMap.mp h
  have := first_mem hp
  exact ⟨this.1, this.2.1⟩
theorem knot_win {b : Book} (fb : FormB b) {s : Nat} (hs : s ∈ knotsM b) {ms : List Nat} (hp : ms.Perm (backsM b s (mvs b s))) (hr : ms.Pairwise (· ≤ ·)) :
    ∃ m, ms[1]? = some m ∧ 1 ≤ m ∧ m ≤ b.length ∧ ∀ goals : List Nat, s ∈ goals → 2 ≤ (leadM b (m + 1) s goals).length := by
  have to : ∀ p ∈ mvs b s, p.2 < b.length := fun p hp => fb.to hp
  have hk := of_decide_eq_true (mem_filt.mp hs).2
  have hl : 2 ≤ ms.length := by
    rw [hp.length_eq]
    exact Nat.le_trans hk (backs_ge fb s _ to)
  match ms, hl, hp, hr with
  | x :: y :: r, _, hp, hr =>
    have hxy : x ≤ y := (List.pairwise_cons.mp hr).1 y (by simp)
    have hy := backs_mem (hp.mem_iff.mp (show y ∈ x :: y :: r by simp))
    refine ⟨y, rfl, hy.1, hy.2, fun goals hg => ?_⟩
    have c2 : 2 ≤ (x :: y :: r).countP (fun k => decide (k ≤ y)) := by
      rw [List.countP_cons, List.countP_cons]
      simp [hxy]
    rw [hp.countP_eq] at c2
    have := backs_le fb s y _ to
    refine Nat.le_trans (Nat.le_trans c2 this) ?_
    unfold leadM
    rw [List.length_map]
    refine filt_le fun p hp h => ?_
    have h := of_decide_eq_true h
    refine List.any_eq_true.mpr ⟨s, ?_, decide_eq_true hg⟩
    unfold endsL at h
    rw [if_neg (by omega)] at h
    unfold ledL reachL
    rw [if_neg (by omega)]
    have : min (y + 1 - 1 - 1) b.length = y - 1 := by omega
    rw [this]
    exact h
theorem knot_fork {b : Book} {s : Nat} (hs : s ∈ knotsM b) : s ∈ forksM b ∧ s < b.length := by
  have h := mem_filt.mp hs
  refine ⟨mem_filt.mpr ⟨h.1, decide_eq_true ?_⟩, h.1⟩
  have := of_decide_eq_true h.2
  unfold waysM at this
  exact Nat.lt_of_lt_of_le this (List.length_filter_le _ _)
theorem rch_zero {b : Book} (e : mvs b 0 = []) {s : Nat} (h : Rch b s) : s = 0 := by
  induction h with
  | zero => rfl
  | step _ hp ih =>
    rw [ih, e] at hp
    cases hp
theorem knot_three {b : Book} (ok : OkB b) {s m : Nat} (hs : s ∈ knotsM b) (two : ∀ goals : List Nat, s ∈ goals → 2 ≤ (leadM b (m + 1) s goals).length) {res : List (Option Int)} {fin : List Nat} (hL : LastM b (m + 1) res fin) :
    s ∈ lastL b res ∧ leastM b res = 3 := by
  obtain ⟨hf, hlt⟩ := knot_fork hs
  have h1 : s ∈ lastL b res := (last_iff hL s).mpr (rk_stay hL hf two)
  refine ⟨h1, ?_⟩
  unfold leastM
  rw [if_neg, if_neg (List.ne_nil_of_mem hf), if_neg (List.ne_nil_of_mem h1)]
  intro e
  have := rch_zero e (ok.reach s hlt)
  subst this
  have := of_decide_eq_true (mem_filt.mp hf).2
  rw [e] at this
  simp at this
/-- the first window, where there are knots -/
theorem from_knot {b : Book} (ok : OkB b) {o : Option Nat} (h : FromW b o) {s : Nat} (hs : s ∈ knotsM b) : ∃ W, o = some W ∧ 2 ≤ W ∧ W ≤ 9 := by
  have fb := ok.toFormB
  obtain ⟨ms, hp, hr⟩ : ∃ ms : List Nat, ms.Perm (backsM b s (mvs b s)) ∧ ms.Pairwise (· ≤ ·) :=
    ⟨(backsM b s (mvs b s)).mergeSort, List.mergeSort_perm _ _, by
      have := List.pairwise_mergeSort (le := fun a b : Nat => decide (a ≤ b)) (by simp; omega) (by simp; omega) (backsM b s (mvs b s))
      exact List.Pairwise.imp (fun h => of_decide_eq_true h) this⟩
  obtain ⟨m, _, m1, m2, two⟩ := knot_win fb hs hp hr
  have h8 := fb.eight
  cases o with
  | none =>
    exfalso
    obtain ⟨res, fin, hL⟩ := rk_ex b (m + 1) _ 0 (forksM b) (List.replicate b.length none) (Nat.le_refl _)
    exact h (m + 1) (by omega) (by omega) res fin hL (knot_three ok hs two hL).2
  | some W =>
    obtain ⟨w1, w9, ⟨res, fin, hL, e⟩, _⟩ := h
    refine ⟨W, rfl, ?_, w9⟩
    by_cases hW : W = 1
    · subst hW
      exact absurd (win_one hL) (least_three e)
    · omega
theorem from_le {b : Book} {W V : Nat} (h : FromW b (some W)) (hV : 1 ≤ V) {res : List (Option Int)} {fin : List Nat} (hL : LastM b V res fin) (e : leastM b res = 3) : W ≤ V := by
  by_cases hlt : W ≤ V
  · exact hlt
  · exact absurd e (h.2.2.2 V hV (by omega) res fin hL)
theorem from_none {b : Book} (fb : FormB b) (h : knotsM b = []) {o : Option Nat} (hw : FromW b o) : o = none := by
  cases o with
  | none => rfl
  | some W =>
    obtain ⟨_, _, ⟨res, fin, hL, e⟩, _⟩ := hw
    exact absurd (no_knots fb h hL) (least_three e)
end Nv
set_option linter.all false
namespace Nv
/-! ### windows that grow -/
theorem lead_goals {b : Book} {W s : Nat} {S st : List Nat} (h : ∀ k ∈ S, k ∈ st) : (leadM b W s S).length ≤ (leadM b W s st).length := by
  unfold leadM
  rw [List.length_map, List.length_map]
  refine filt_le fun p _ e => ?_
  obtain ⟨k, hk, e⟩ := List.any_eq_true.mp e
  exact List.any_eq_true.mpr ⟨k, hk, decide_eq_true (h k (of_decide_eq_true e))⟩
theorem rk_greatest {b : Book} {W t : Nat} {st fin S : List Nat} {r res : List (Option Int)} (h : Rk b W t st r res fin) (two : ∀ s ∈ S, 2 ≤ (leadM b W s S).length) : (∀ k ∈ S, k ∈ st) → ∀ k ∈ S, k ∈ fin := by
  induction h with
  | stop _ => exact fun h => h
  | @go t st fin r res _ _ ih =>
    intro h
    refine ih fun k hk => List.mem_filter.mpr ⟨h k hk, ?_⟩
    have : k ∉ fallM b W st := fun z => by
      have := of_decide_eq_true (List.mem_filter.mp z).2
      have := two k hk
      have := lead_goals (b := b) (W := W) (s := k) h
      omega
    rw [decide_eq_false this]
    rfl
theorem led_mono {b : Book} (fb : FormB b) {t m n k : Nat} (ht : t < b.length) (h : m ≤ n) (hk : k ∈ ledL b t m) : k ∈ ledL b t n := by
  unfold ledL at hk ⊢
  split at hk
  · cases hk
  · rw [if_neg (by omega)]
    exact wi_mono fb ht (by omega) hk
theorem lead_mono {b : Book} (fb : FormB b) {W V s : Nat} {S : List Nat} (h : W ≤ V) : (leadM b W s S).length ≤ (leadM b V s S).length := by
  unfold leadM
  rw [List.length_map, List.length_map]
  refine filt_le fun p hp e => ?_
  obtain ⟨k, hk, e⟩ := List.any_eq_true.mp e
  exact List.any_eq_true.mpr ⟨k, led_mono fb (fb.to hp) (by omega) hk, e⟩
theorem last_mono {b : Book} (fb : FormB b) {W V : Nat} (h : W ≤ V) {res res' : List (Option Int)} {fin fin' : List Nat} (hW : LastM b W res fin) (hV : LastM b V res' fin') : ∀ k ∈ lastL b res, k ∈ lastL b res' := by
  intro k hk
  rw [last_iff hV]
  rw [last_iff hW] at hk
  exact rk_greatest hV (fun s hs => Nat.le_trans (rk_stable hW s hs) (lead_mono fb h)) (rk_sub hW) k hk
theorem led_full {b : Book} (fb : FormB b) {t m : Nat} (ht : t < b.length) (h : b.length ≤ m) : ledL b t m = ledL b t b.length := by
  have h1 := fb.one
  unfold ledL reachL
  rw [if_neg (by omega), if_neg (by omega), wi_full fb ht _ (by omega), wi_full fb ht (min (b.length - 1) b.length) (by omega)]
theorem lead_full {b : Book} (fb : FormB b) {W : Nat} (h : b.length + 1 ≤ W) (s : Nat) (S : List Nat) : leadM b W s S = leadM b (b.length + 1) s S := by
  unfold leadM
  congr 1
  refine List.filter_congr fun p hp => ?_
  rw [led_full fb (fb.to hp) (by omega), led_full fb (m := b.length + 1 - 1) (fb.to hp) (by omega)]
theorem fall_cong {b : Book} {W V : Nat} (e : ∀ s S, leadM b W s S = leadM b V s S) (st : List Nat) : fallM b W st = fallM b V st := by
  unfold fallM
  exact List.filter_congr fun f _ => by rw [e]
theorem rest_cong {b : Book} {W V : Nat} (e : ∀ s S, leadM b W s S = leadM b V s S) (st : List Nat) : restM b W st = restM b V st := by
  unfold restM
  rw [fall_cong e]
theorem rk_cong {b : Book} {W V : Nat} (e : ∀ s S, leadM b W s S = leadM b V s S) {t : Nat} {st fin : List Nat} {r res : List (Option Int)} (h : Rk b W t st r res fin) : Rk b V t st r res fin := by
  induction h with
  | stop h => exact .stop (by rw [← fall_cong e]; exact h)
  | @go t st fin r res h _ ih =>
    refine .go (by rw [← fall_cong e]; exact h) ?_
    rw [← fall_cong e, ← rest_cong e]
    exact ih
theorem last_full {b : Book} (fb : FormB b) {W : Nat} (h : b.length + 1 ≤ W) {res : List (Option Int)} {fin : List Nat} (hL : LastM b W res fin) : LastM b (b.length + 1) res fin := rk_cong (lead_full fb h) hL
theorem last_fun {b : Book} {W : Nat} {res res' : List (Option Int)} {fin fin' : List Nat} (h : LastM b W res fin) (h' : LastM b W res' fin') : res = res' := (rk_fun h h').1
/-! ### which ranks come -/
theorem rk_none {b : Book} {W n : Nat} {F : List Nat} {t : Nat} {st fin : List Nat} {r res : List (Option Int)} (h : Rk b W t st r res fin) : r.length = n → (∀ k ∈ st, k ∈ F) → (∀ k, r[k]? = some none ↔ k < n ∧ (k ∈ st ∨ k ∉ F)) → ∀ k, res[k]? = some none ↔ k < n ∧ k ∉ F := by
  induction h with
  | @stop t st r _ =>
    intro hn hF hr k
    rw [setAll_get]
    by_cases hk : k ∈ st ∧ k < r.length
    · rw [if_pos hk]
      exact ⟨fun z => (nomatch z), fun z => absurd (hF k hk.1) z.2⟩
    · rw [if_neg hk, hr k]
      constructor
      · rintro ⟨h1, h2 | h2⟩
        · exact absurd ⟨h2, by omega⟩ hk
        · exact ⟨h1, h2⟩
      · exact fun z => ⟨z.1, .inr z.2⟩
  | @go t st fin r res _ _ ih =>
    intro hn hF hr
    refine ih (by rw [setAll_len]; exact hn) (fun k hk => hF k (List.mem_filter.mp hk).1) fun k => ?_
    rw [setAll_get]
    by_cases hk : k ∈ fallM b W st ∧ k < r.length
    · rw [if_pos hk]
      refine ⟨fun z => (nomatch z), ?_⟩
      rintro ⟨_, h2 | h2⟩
      · have := (List.mem_filter.mp h2).2
        rw [decide_eq_true hk.1] at this
        cases this
      · exact absurd (hF k (List.mem_filter.mp hk.1).1) h2
    · rw [if_neg hk, hr k]
      constructor
      · rintro ⟨h1, h2 | h2⟩
        · refine ⟨h1, .inl (List.mem_filter.mpr ⟨h2, ?_⟩)⟩
          rw [decide_eq_false (fun z => hk ⟨z, by omega⟩)]
          rfl
        · exact ⟨h1, .inr h2⟩
      · rintro ⟨h1, h2 | h2⟩
        · exact ⟨h1, .inl (List.mem_filter.mp h2).1⟩
        · exact ⟨h1, .inr h2⟩
theorem rk_vals {b : Book} {W : Nat} {t : Nat} {st fin : List Nat} {r res : List (Option Int)} (h : Rk b W t st r res fin) : (∀ k ∈ st, r[k]? = some none) → (∀ v : Nat, (∃ k : Nat, r[k]? = some (some (v : Int))) ↔ v < t) → ∃ m, ∀ v : Nat, (∃ k : Nat, res[k]? = some (some (v : Int))) ↔ v < m := by
  induction h with
  | @stop t st r _ =>
    intro hs hv
    refine ⟨t, fun v => ?_⟩
    rw [← hv v]
    constructor
    · rintro ⟨k, hk⟩
      rw [setAll_get] at hk
      split at hk
      · have := Option.some.inj (Option.some.inj hk)
        omega
      · exact ⟨k, hk⟩
    · rintro ⟨k, hk⟩
      refine ⟨k, ?_⟩
      rw [setAll_get, if_neg]
      · exact hk
      · rintro ⟨h1, _⟩
        rw [hs k h1] at hk
        cases hk
  | @go t st fin r res hne _ ih =>
    intro hs hv
    refine ih (fun k hk => ?_) fun v => ?_
    · obtain ⟨h1, h2⟩ := List.mem_filter.mp hk
      rw [setAll_get, if_neg]
      · exact hs k h1
      · rintro ⟨h3, _⟩
        rw [decide_eq_true h3] at h2
        cases h2
    · constructor
      · rintro ⟨k, hk⟩
        rw [setAll_get] at hk
        split at hk
        · have := Option.some.inj (Option.some.inj hk)
          omega
        · have := (hv v).mp ⟨k, hk⟩
          omega
      · intro h
        by_cases hvt : v = t
        · obtain ⟨k, hk⟩ := List.exists_mem_of_ne_nil _ hne
          have hk1 := hs k (List.mem_filter.mp hk).1
          refine ⟨k, ?_⟩
          rw [setAll_get, if_pos ⟨hk, (List.getElem?_eq_some_iff.mp hk1).1⟩, hvt]
        · obtain ⟨k, hk⟩ := (hv v).mpr (by omega)
          refine ⟨k, ?_⟩
          rw [setAll_get, if_neg]
          · exact hk
          · rintro ⟨h1, _⟩
            rw [hs k (List.mem_filter.mp h1).1] at hk
            cases hk
theorem rep_none {n k : Nat} : (List.replicate n (none : Option Int))[k]? = some none ↔ k < n := by
  rw [List.getElem?_replicate]
  split <;> simp [*]
theorem last_none {b : Book} {W : Nat} {res : List (Option Int)} {fin : List Nat} (h : LastM b W res fin) (k : Nat) : res[k]? = some none ↔ k < b.length ∧ k ∉ forksM b :=
  rk_none h List.length_replicate (fun k hk => hk) (fun k => by
    rw [rep_none]
    exact ⟨fun z => ⟨z, by by_cases h : k ∈ forksM b; exact .inl h; exact .inr h⟩, fun z => z.1⟩) k
theorem last_vals {b : Book} {W : Nat} {res : List (Option Int)} {fin : List Nat} (h : LastM b W res fin) : ∃ m, ∀ v : Nat, (∃ k : Nat, res[k]? = some (some (v : Int))) ↔ v < m :=
  by
    refine rk_vals h (fun k hk => rep_none.mpr (forks_lt hk)) fun v => ?_
    constructor
    · rintro ⟨k, hk⟩
      rw [List.getElem?_replicate] at hk
      split at hk <;> cases hk
    · exact fun z => absurd z (Nat.not_lt_zero v)
/-! ### three wires from the first window on -/
theorem three_iff {b : Book} {W : Nat} {res : List (Option Int)} {fin : List Nat} (h : LastM b W res fin) : leastM b res = 3 ↔ mvs b 0 ≠ [] ∧ lastL b res ≠ [] := by
  unfold leastM
  constructor
  · intro e
    split at e
    · omega
    · rename_i h1
      split at e
      · omega
      · split at e
        · omega
        · rename_i h2
          exact ⟨h1, h2⟩
  · rintro ⟨h1, h2⟩
    obtain ⟨k, hk⟩ := List.exists_mem_of_ne_nil _ h2
    have : forksM b ≠ [] := List.ne_nil_of_mem (rk_sub h k ((last_iff h k).mp hk))
    rw [if_neg h1, if_neg this, if_neg h2]
theorem three_mono {b : Book} (fb : FormB b) {W V : Nat} (h : W ≤ V) {res res' : List (Option Int)} {fin fin' : List Nat} (hW : LastM b W res fin) (hV : LastM b V res' fin') (e : leastM b res = 3) : leastM b res' = 3 := by
  obtain ⟨h1, h2⟩ := (three_iff hW).mp e
  obtain ⟨k, hk⟩ := List.exists_mem_of_ne_nil _ h2
  exact (three_iff hV).mpr ⟨h1, List.ne_nil_of_mem (last_mono fb h hW hV k hk)⟩
theorem last_ex (b : Book) (W : Nat) : ∃ res fin, LastM b W res fin := rk_ex b W _ 0 (forksM b) (List.replicate b.length none) (Nat.le_refl _)
theorem from_iff {b : Book} (fb : FormB b) {o : Option Nat} (ho : FromW b o) {W : Nat} (h1 : 1 ≤ W) {res : List (Option Int)} {fin : List Nat} (hW : LastM b W res fin) : leastM b res = 3 ↔ ∃ V, o = some V ∧ V ≤ W := by
  have h8 := fb.eight
  cases o with
  | none =>
    constructor
    · intro e
      exfalso
      by_cases h9 : W ≤ 9
      · exact ho W h1 h9 res fin hW e
      · exact ho (b.length + 1) (by omega) (by omega) res fin (last_full fb (by omega) hW) e
    · rintro ⟨V, e, _⟩
      cases e
  | some V =>
    constructor
    · exact fun e => ⟨V, rfl, from_le ho h1 hW e⟩
    · rintro ⟨V', e, hV⟩
      have e := Option.some.inj e
      subst e
      obtain ⟨_, _, ⟨res0, fin0, hL0, e0⟩, _⟩ := ho
      exact three_mono fb hV hL0 hW e0
theorem from_small {b : Book} (fb : FormB b) {V : Nat} (ho : FromW b (some V)) : V ≤ b.length + 1 := by
  by_cases h : V ≤ b.length + 1
  · exact h
  · obtain ⟨res, fin, hL⟩ := last_ex b V
    have e := (from_iff fb ho ho.1 hL).mpr ⟨V, rfl, Nat.le_refl _⟩
    exact from_le ho (by omega) (last_full fb (by omega) hL) e
/-! ### the law's own rounds -/
theorem led_ends {b : Book} (fb : FormB b) {t m k : Nat} (ht : t < b.length) : k ∈ ledL b t m ↔ k ∈ endsL b t (min m 8) := by
  have h8 := fb.eight
  unfold ledL endsL
  by_cases h : m = 0
  · subst h
    simp
  · rw [if_neg h, if_neg (by omega)]
    unfold reachL
    by_cases h9 : m ≤ b.length
    · have e1 : min (m - 1) b.length = m - 1 := by omega
      have e2 : min m 8 - 1 = m - 1 := by omega
      rw [e1, e2]
    · rw [mem_wi fb ht (by omega), mem_wi fb ht (by omega)]
def lotsM (b : Book) (W s : Nat) : List (List Nat) := (mvs b s).map fun p => endsL b p.2 (min (W - 1) 8)
theorem good_len {b : Book} (fb : FormB b) (W s : Nat) (st : List Nat) : ((lotsM b W s).filter fun l => !decide ((l.filter fun k => decide (k ∈ st)) = [])).length = (leadM b W s st).length := by
  unfold lotsM leadM
  rw [List.filter_map, List.length_map, List.length_map]
  congr 1
  refine List.filter_congr fun p hp => ?_
  have hp2 := fb.to hp
  show (!decide (((endsL b p.2 (min (W - 1) 8)).filter fun k => decide (k ∈ st)) = [])) = (ledL b p.2 (W - 1)).any fun k => decide (k ∈ st)
  by_cases h : ((endsL b p.2 (min (W - 1) 8)).filter fun k => decide (k ∈ st)) = []
  · rw [decide_eq_true h]
    symm
    rw [Bool.not_true, List.any_eq_false]
    intro k hk z
    have := List.filter_eq_nil_iff.mp h k ((led_ends fb hp2).mp hk)
    exact this z
  · rw [decide_eq_false h]
    symm
    obtain ⟨k, hk⟩ := List.exists_mem_of_ne_nil _ h
    obtain ⟨h1, h2⟩ := List.mem_filter.mp hk
    exact List.any_eq_true.mpr ⟨k, (led_ends fb hp2).mpr h1, h2⟩
end Nv
set_option Elab.async false
set_option linter.all false
namespace Nv
open PySem PySem.Spec PyProof.Rows L2
/-- repr(x), x a number or None -/
def rReprO : List V → Hp → VK → Prop := fun xs H Q => (∃ i, xs = [.int i] ∧ i.natAbs.log2 < 1920 ∧ Q (.str (toString i)) H) ∨ (xs = [.non] ∧ Q (.str "None") H)
theorem call_reprO {X : Cx} : CallR X (.builtin "repr") rReprO := by
  intro pins s σ H xs us Q I r h
  rcases h with h | ⟨rfl, q⟩
  · exact SkE.call_repr_int pins s σ H xs us Q I r h
  · obtain ⟨u, rfl, rfl⟩ := vals1 r
    exact PySem.P.repr_of_none ⟨.str _, H, I.tok _, ⟨_, rfl⟩, q⟩
end Nv
set_option Elab.async false
set_option linter.all false
set_option maxRecDepth 100000
namespace Nv
open PySem PySem.Spec PyProof.Rows L2
section
variable {P : Program} {w : World} {K : PySem.W.Frag} {mg : Str → Option Value} {base : Heap}
/-! ### ranks, and the law's own -/
theorem sc_ranks : FnScope ["book", "window"] ["book", "window"] (defScope s_ranks) := ⟨rfl, rfl, rfl, by decide +kernel, rfl, by decide +kernel, by decide +kernel⟩
def sp_ranks (K : PySem.W.Frag) : Sp := fun vs H Q _ => ∃ (v : V) (b : Book) (W : Nat), vs = [v, .int W] ∧ BkV K H v b ∧ OkB b ∧ 1 ≤ W ∧ ∀ (res : List (Option Int)) (fin : List Nat) (t : Addr) (H' : Hp), LastM b W res fin → SqT K H' t (res.map oV) → Ext [] H H' → Q (.ref t) H'
theorem ok_ranks (T : Tx K mg) : FnOk P w K mg base CX0 6 T.ranks.f T.ranks.fd ["book", "window"] (sp_ranks K) := by
  refine T.ranks.F.ok sc_ranks (fun vs H Q E h => ?_) (fun cdv A outer s H vs Q E hr h => ?_)
  · obtain ⟨v, b, W, rfl, _⟩ := h; rfl
  · obtain ⟨v, b, W, rfl, hb, ok, hW, q⟩ := h
    refine ⟨_, (pss_cons (ps_expr (pe_call (ok_made_book T) (hr.mono (by decide)) (by rfl) T.made_book.g T.made_book.F.kp T.made_book.b .nil pass0 (pa_cons (pv 0) pa_nil)))
      (pss_cons (ps_expr (pe_call (ok_check_number T) (hr.mono (by decide)) (by rfl) T.check_number.g T.check_number.F.kp T.check_number.b .nil pass0 (pa_cons (pv 1) pa_nil)))
      (pss_one (ps_ret (pe_call (ok_ranks_for T) (hr.mono (by decide)) (by rfl) T.ranks_for.g T.ranks_for.F.kp T.ranks_for.b .nil pass0 (pa_cons (pv 0) (pa_cons (pv 1) pa_nil))))))), ?_⟩
    refine ⟨_, rfl, v, b, rfl, hb, ok, fun H1 e1 => ?_⟩
    refine ⟨_, rfl, W, rfl, hW, ?_⟩
    exact ⟨_, rfl, _, rfl, v, b, W, rfl, hb.ext0 e1, ok.toFormB, hW, fun res fin t H' hL ht e => q res fin t H' hL ht (e1.trans e)⟩
/-! ### lists of lists of numbers -/
def Nm (X : List Addr) (H : Hp) (v : V) (l : List Nat) : Prop := ∃ g : Addr, v = .ref g ∧ g ∉ X ∧ H g = some (.lst (l.map nV))
def NmS (X : List Addr) (H : Hp) (v : V) (ls : List (List Nat)) : Prop := ∃ (g : Addr) (vs : List V), v = .ref g ∧ g ∉ X ∧ H g = some (.lst vs) ∧ Paired (Nm X H) vs ls
theorem Nm.ext {X Y : List Addr} {H H' : Hp} {v : V} {l : List Nat} (h : Nm X H v l) (e : Ext Y H H') (s : ∀ y ∈ Y, y ∈ X) : Nm X H' v l := by
  obtain ⟨g, rfl, h1, h2⟩ := h
  exact ⟨g, rfl, h1, e _ _ (fun z => h1 (s _ z)) h2⟩
theorem Nm.less {X Y : List Addr} {H : Hp} {v : V} {l : List Nat} (h : Nm X H v l) (s : ∀ y ∈ Y, y ∈ X) : Nm Y H v l := by
  obtain ⟨g, rfl, h1, h2⟩ := h
  exact ⟨g, rfl, fun z => h1 (s _ z), h2⟩
theorem NmS.ext {X Y : List Addr} {H H' : Hp} {v : V} {l : List (List Nat)} (h : NmS X H v l) (e : Ext Y H H') (s : ∀ y ∈ Y, y ∈ X) : NmS X H' v l := by
  obtain ⟨g, vs, rfl, h1, h2, h3⟩ := h
  exact ⟨g, vs, rfl, h1, e _ _ (fun z => h1 (s _ z)) h2, Paired.imp h3 fun _ _ z => z.ext e s⟩
theorem NmS.less {X Y : List Addr} {H : Hp} {v : V} {l : List (List Nat)} (h : NmS X H v l) (s : ∀ y ∈ Y, y ∈ X) : NmS Y H v l := by
  obtain ⟨g, vs, rfl, h1, h2, h3⟩ := h
  exact ⟨g, vs, rfl, fun z => h1 (s _ z), h2, Paired.imp h3 fun _ _ z => z.less s⟩
end
end Nv
set_option linter.all false
namespace Nv
open PySem PySem.Spec PyProof.Rows L2
/-! ### what is shown of small things -/
def oD : Option Int → PyData
  | none => .none
  | some i => .int i
theorem dp_o {K : PySem.W.Frag} {H : Hp} : ∀ l : List (Option Int), DpAll K H (l.map oV) (l.map oD)
  | [] => .nil
  | none :: r => .cons .non (dp_o r)
  | some i :: r => .cons (.int i) (dp_o r)
theorem int_short {i : Int} (h1 : -1 ≤ i) (h2 : i < 8) : PyData.leavesShort 8 (.int i) = true := by
  have : i = -1 ∨ i = 0 ∨ i = 1 ∨ i = 2 ∨ i = 3 ∨ i = 4 ∨ i = 5 ∨ i = 6 ∨ i = 7 := by omega
  rcases this with rfl | rfl | rfl | rfl | rfl | rfl | rfl | rfl | rfl <;> decide +kernel
structure ShowOk (d : PyData) : Prop where
  a : d.showable = true
  b : d.hasDict = false
  c : d.depth ≤ 60
  d : d.shown.length ≤ sizeLine
def Small (l : List (Option Int)) : Prop := ∀ i, some i ∈ l → -1 ≤ i ∧ i < 8
theorem o_short : ∀ l : List (Option Int), Small l → PyData.leavesShortAll 8 (l.map oD) = true
  | [], _ => rfl
  | none :: r, h => by
    have h2 := o_short r fun i hi => h i (List.mem_cons_of_mem _ hi)
    simp only [List.map_cons, oD, PyData.leavesShortAll, PyData.leavesShort, h2, Bool.and_true]
  | some i :: r, h => by
    have h1 := int_short (h i (by simp)).1 (h i (by simp)).2
    have h2 := o_short r fun i hi => h i (List.mem_cons_of_mem _ hi)
    simp only [List.map_cons, oD, PyData.leavesShortAll, h1, h2, Bool.and_true]
theorem o_show : ∀ l : List (Option Int), Small l → PyData.showableAll (l.map oD) = true
  | [], _ => rfl
  | none :: r, h => by
    have h2 := o_show r fun i hi => h i (List.mem_cons_of_mem _ hi)
    simp only [List.map_cons, oD, PyData.showableAll, PyData.showable, h2, Bool.and_true]
  | some i :: r, h => by
    have h1 := h i (by simp)
    have h3 : i.natAbs.log2 < 1920 := Nat.lt_of_le_of_lt (Nat.log2_le_self _) (by omega)
    have h2 := o_show r fun i hi => h i (List.mem_cons_of_mem _ hi)
    simp only [List.map_cons, oD, PyData.showableAll, PyData.showable, h2, h3, decide_true, Bool.and_true]
theorem o_nodict : ∀ l : List (Option Int), PyData.hasDictAll (l.map oD) = false
  | [] => rfl
  | none :: r => by simp only [List.map_cons, oD, PyData.hasDictAll, PyData.hasDict, o_nodict r, Bool.or_self]
  | some i :: r => by simp only [List.map_cons, oD, PyData.hasDictAll, PyData.hasDict, o_nodict r, Bool.or_self]
theorem o_depth : ∀ l : List (Option Int), PyData.depthAll (l.map oD) = 0
  | [] => rfl
  | none :: r => by simp [oD, PyData.depthAll, PyData.depth, o_depth r]
  | some i :: r => by simp [oD, PyData.depthAll, PyData.depth, o_depth r]
theorem o_bulk : ∀ l : List (Option Int), PyData.bulkAll (l.map oD) = l.length
  | [] => rfl
  | none :: r => by
    simp only [List.map_cons, oD, PyData.bulkAll, PyData.bulk, o_bulk r, List.length_cons]
    omega
  | some i :: r => by
    simp only [List.map_cons, oD, PyData.bulkAll, PyData.bulk, o_bulk r, List.length_cons]
    omega
theorem show_o {l : List (Option Int)} (h : Small l) (hl : l.length ≤ 8) : ShowOk (.tuple (l.map oD)) where
  a := by
    show PyData.showableAll _ = true
    exact o_show l h
  b := by
    show PyData.hasDictAll _ = false
    exact o_nodict l
  c := by
    show PyData.depthAll _ + 1 ≤ 60
    rw [o_depth]
    decide
  d := by
    have k := PyData.shown_le_bulk 8 (Nat.le_refl _) (.tuple (l.map oD)) (by show PyData.leavesShortAll 8 _ = true; exact o_short l h)
    have e : PyData.bulk (.tuple (l.map oD)) = l.length := by
      show PyData.bulkAll _ = _
      exact o_bulk l
    rw [e] at k
    exact Nat.le_of_lt (small1000 (by omega))
/-- numbers as such a list -/
def someN (l : List Nat) : List (Option Int) := l.map fun n : Nat => some (n : Int)
theorem some_nV (l : List Nat) : (someN l).map oV = l.map nV := by
  unfold someN
  rw [List.map_map]
  rfl
theorem small_nats {l : List Nat} (h : ∀ n ∈ l, n < 8) : Small (someN l) := fun i hi => by
  obtain ⟨n, hn, e⟩ := List.mem_map.mp hi
  have := h n hn
  have e := Option.some.inj e
  omega
theorem dp_nats {K : PySem.W.Frag} {H : Hp} (l : List Nat) : DpAll K H (l.map nV) ((someN l).map oD) := by
  rw [← some_nV]
  exact dp_o _
/-! ### the ranks' bounds -/
theorem rk_bound {b : Book} {W t : Nat} {st fin : List Nat} {r res : List (Option Int)} (h : Rk b W t st r res fin) : (∀ (k : Nat) (v : Int), r[k]? = some (some v) → -1 ≤ v ∧ v < t) → ∀ (k : Nat) (v : Int), res[k]? = some (some v) → -1 ≤ v ∧ v < t + st.length := by
  induction h with
  | @stop t st r _ =>
    intro h k v hk
    rw [setAll_get] at hk
    split at hk
    · have := Option.some.inj (Option.some.inj hk)
      omega
    · have := h k v hk
      omega
  | @go t st fin r res hne _ ih =>
    intro h k v hk
    have rl := rest_len hne
    have := ih (fun k v hk => by
      rw [setAll_get] at hk
      split at hk
      · have := Option.some.inj (Option.some.inj hk)
        omega
      · have := h k v hk
        omega) k v hk
    omega
theorem forks_len (b : Book) : (forksM b).length ≤ b.length := by
  unfold forksM
  refine Nat.le_trans (List.length_filter_le _ _) ?_
  rw [List.length_range]
  exact Nat.le_refl _
theorem last_len {b : Book} {W : Nat} {res : List (Option Int)} {fin : List Nat} (h : LastM b W res fin) : res.length = b.length := by rw [rk_len h, List.length_replicate]
theorem last_small {b : Book} (fb : FormB b) {W : Nat} {res : List (Option Int)} {fin : List Nat} (h : LastM b W res fin) : Small res := fun i hi => by
  obtain ⟨k, hk, e⟩ := List.mem_iff_getElem.mp hi
  have h8 := fb.eight
  have fl := forks_len b
  have := rk_bound h (fun k v hk => by
    rw [List.getElem?_replicate] at hk
    split at hk <;> cases hk) k i (by rw [List.getElem?_eq_getElem hk, e])
  omega
/-- the ranks from 0 on -/
def posL (res : List (Option Int)) : List Int := res.filterMap fun o => match o with
  | some v => if 0 ≤ v then some v else none
  | none => none
def posO : Option Int → List Int
  | some v => if 0 ≤ v then [v] else []
  | none => []
theorem posL_take {res : List (Option Int)} {i : Nat} {o : Option Int} (h : res[i]? = some o) : posL (res.take (i + 1)) = posL (res.take i) ++ posO o := by
  unfold posL
  rw [List.take_add_one, h, List.filterMap_append]
  congr 1
  cases o with
  | none => rfl
  | some v =>
    by_cases hv : 0 ≤ v <;> simp [hv, posO]
theorem mem_posL {res : List (Option Int)} {v : Int} : v ∈ posL res ↔ 0 ≤ v ∧ ∃ k : Nat, res[k]? = some (some v) := by
  unfold posL
  rw [List.mem_filterMap]
  constructor
  · rintro ⟨o, ho, e⟩
    cases o with
    | none => cases e
    | some u =>
      by_cases hu : 0 ≤ u
      · have e : (if 0 ≤ u then some u else none) = some v := e
        rw [if_pos hu] at e
        have e := Option.some.inj e
        subst e
        obtain ⟨k, hk, e⟩ := List.mem_iff_getElem.mp ho
        exact ⟨hu, k, by rw [List.getElem?_eq_getElem hk, e]⟩
      · have e : (if 0 ≤ u then some u else none) = some v := e
        rw [if_neg hu] at e
        cases e
  · rintro ⟨hv, k, hk⟩
    refine ⟨some v, List.mem_of_getElem? hk, ?_⟩
    show (if 0 ≤ v then some v else none) = some v
    rw [if_pos hv]
theorem posL_len (res : List (Option Int)) : (posL res).length ≤ res.length := List.length_filterMap_le _ _
/-- the list of the ranks from 0 on, rising, is an initial one -/
theorem pos_initial {b : Book} {W : Nat} {res : List (Option Int)} {fin : List Nat} (h : LastM b W res fin) {ns : List Int} (hp : ns.Pairwise (· < ·)) (hm : ∀ v, v ∈ ns ↔ v ∈ posL res) : ∃ m : Nat, ns = (List.range m).map fun n : Nat => (n : Int) := by
  obtain ⟨m, hv⟩ := last_vals h
  have nn : ∀ z ∈ ns, ∃ n : Nat, z = (n : Int) := fun z hz => by
    have := (mem_posL.mp ((hm z).mp hz)).1
    exact ⟨z.toNat, by omega⟩
  have e : ns = (ns.map Int.toNat).map fun n : Nat => (n : Int) := by
    rw [List.map_map]
    conv => lhs; rw [← List.map_id ns]
    refine List.map_congr_left fun x hx => ?_
    obtain ⟨n, rfl⟩ := nn x hx
    rfl
  refine ⟨m, ?_⟩
  rw [e]
  congr 1
  refine srt_eq ?_ List.pairwise_lt_range fun k => ?_
  · rw [List.pairwise_map]
    refine List.Pairwise.imp_of_mem (fun {a b} ha hb h => ?_) hp
    obtain ⟨n, rfl⟩ := nn a ha
    obtain ⟨m, rfl⟩ := nn b hb
    simp
    omega
  · rw [List.mem_range, ← hv k, List.mem_map]
    constructor
    · rintro ⟨z, hz, e⟩
      obtain ⟨n, rfl⟩ := nn z hz
      have e : n = k := e
      subst e
      exact (mem_posL.mp ((hm _).mp hz)).2
    · intro hk
      exact ⟨(k : Int), (hm _).mpr (mem_posL.mpr ⟨by omega, hk⟩), rfl⟩
theorem in_last {b : Book} {res : List (Option Int)} (hl : res.length = b.length) : inV (V.int (-1)) (res.map oV) = !decide (lastL b res = []) := by
  unfold inV
  rw [List.any_map]
  by_cases h : lastL b res = []
  · rw [decide_eq_true h, Bool.not_true, List.any_eq_false]
    intro o ho
    obtain ⟨k, hk, e⟩ := List.mem_iff_getElem.mp ho
    have nk : k ∉ lastL b res := by rw [h]; simp
    have : ¬ res[k]? = some (some (-1)) := fun z => nk (mem_filt.mpr ⟨by omega, decide_eq_true z⟩)
    rw [List.getElem?_eq_getElem hk, e] at this
    intro z
    cases o with
    | none => cases z
    | some v =>
      have z : decide (v = (-1 : Int)) = true := z
      have z := of_decide_eq_true z
      exact this (by rw [z])
  · rw [decide_eq_false h]
    obtain ⟨k, hk⟩ := List.exists_mem_of_ne_nil _ h
    have hk := of_decide_eq_true (mem_filt.mp hk).2
    exact List.any_eq_true.mpr ⟨_, List.mem_of_getElem? hk, rfl⟩
end Nv
set_option Elab.async false
set_option linter.all false
set_option maxRecDepth 100000
namespace Nv
open PySem PySem.Spec PyProof.Rows L2
/-! ### repr of any data -/
/-- repr(x) of data; nothing is being shown around -/
def rReprA (K : PySem.W.Frag) : List V → Hp → VK → Prop := fun xs H Q => ∃ (v : V) (d : PyData), xs = [v] ∧ Dp K H v d ∧ ShowOk d ∧ Q (.str d.shown) H
theorem call_reprA {X : Cx} (hu : X.A.units + 64 < cLine) (hg : X.A.guards = some []) : CallR X (.builtin "repr") (rReprA X.K) := by
  intro pins s σ H xs us Q I r h
  obtain ⟨v, d, rfl, hd, sh, q⟩ := h
  cases hd with
  | non =>
    obtain ⟨u, rfl, rfl⟩ := vals1 r
    exact PySem.P.repr_of_none ⟨.str _, H, I.tok _, ⟨_, rfl⟩, q⟩
  | bl b =>
    obtain ⟨u, rfl, rfl⟩ := vals1 r
    exact PySem.P.repr_of_bool ⟨.str _, H, I.tok _, ⟨_, rfl⟩, q⟩
  | int i =>
    exact SkE.call_repr_int pins s σ H _ us Q I r ⟨i, rfl, of_decide_eq_true sh.a, q⟩
  | str x =>
    obtain ⟨u, rfl, rx⟩ := vals1 r
    obtain ⟨t, rfl⟩ := rx
    exact PySem.P.repr_of_str ⟨.str _, H, I.tok _, ⟨_, rfl⟩, q⟩ sh.d
  | lst h1 h2 => exact call_reprD hu hg pins s σ H _ us Q I r ⟨_, _, rfl, .lst h1 h2, sh.a, sh.b, sh.c, sh.d, q⟩
  | tup h1 h2 => exact call_reprD hu hg pins s σ H _ us Q I r ⟨_, _, rfl, .tup h1 h2, sh.a, sh.b, sh.c, sh.d, q⟩
theorem call_reprAK (K : PySem.W.Frag) {X : Cx} (hu : X.A.units + 64 < cLine) (hg : X.A.guards = some []) (eK : X.K = K := by rfl) : CallR X (.builtin "repr") (rReprA K) := by
  subst eK
  exact call_reprA hu hg
/-- what is shown of some data -/
theorem show_mk {d : PyData} {n : Nat} (a : d.showable = true) (b : d.hasDict = false) (c : d.depth ≤ 60) (e : PyData.leavesShort 8 d = true) (k : PyData.bulk d ≤ n) (hn : n ≤ 60) : ShowOk d where
  a := a
  b := b
  c := c
  d := by
    have k2 := PyData.shown_le_bulk 8 (Nat.le_refl _) d e
    refine Nat.le_of_lt (small1000 (Nat.le_trans k2 ?_))
    omega
theorem nat_short {n : Nat} (h : n < 8) : PyData.leavesShort 8 (.int (n : Int)) = true := int_short (by omega) (by omega)
abbrev iN (l : List Nat) : List Int := l.map fun n : Nat => (n : Int)
theorem map_nV_iN (l : List Nat) : l.map nV = (iN l).map V.int := by rw [List.map_map]; rfl
theorem str_ne (x : Str) : (!decide (V.str x = V.str x)) = false := by rw [decide_eq_true rfl]; rfl
theorem str_eq (x : Str) : decide (V.str x = V.str x) = true := decide_eq_true rfl
theorem str_small {e : Int} (h : -1 ≤ e ∧ e ≤ 8) : (Str.ofString (toString e)).length ≤ 8 := by
  have : e = -1 ∨ e = 0 ∨ e = 1 ∨ e = 2 ∨ e = 3 ∨ e = 4 ∨ e = 5 ∨ e = 6 ∨ e = 7 ∨ e = 8 := by omega
  rcases this with rfl | rfl | rfl | rfl | rfl | rfl | rfl | rfl | rfl | rfl <;> decide +kernel
theorem show_int {e : Int} (h : -1 ≤ e ∧ e ≤ 8) : ShowOk (.int e) ∧ (PyData.int e).shown.length ≤ 100 := by
  have sl := str_small h
  have hlog : e.natAbs.log2 < 1920 := Nat.lt_of_le_of_lt (Nat.log2_le_self _) (by omega)
  have e1 : (PyData.int e).shown.length = (Str.ofString (toString e)).length := rfl
  exact ⟨⟨decide_eq_true hlog, rfl, (by show (0 : Nat) ≤ 60; decide), by rw [e1]; exact Nat.le_of_lt (small1000 (by omega))⟩, by omega⟩
end Nv
set_option linter.all false
namespace Nv
open PySem PySem.Spec PyProof.Rows L2
/-! ### special messages -/
/-- a lasting fork, or one of this rank or more -/
def hiB (res : List (Option Int)) (r : Int) (k : Nat) : Bool := match res[k]? with
  | some (some x) => decide (x < 0) || decide (r ≤ x)
  | _ => false
def condM (b : Book) (W : Nat) (res : List (Option Int)) (r : Int) (p : Nat × Nat) : Bool := (endsL b p.2 (min (W - 1) 8)).any (hiB res r)
def frontM (b : Book) (s : Nat) : Option Int := (mvs b s)[0]?.map fun p => (p.1 : Int)
def findM (b : Book) (W : Nat) (res : List (Option Int)) (r : Int) (s : Nat) : Option Int := match (mvs b s).find? (condM b W res r) with
  | some p => some (p.1 : Int)
  | none => frontM b s
def specM (b : Book) (W : Nat) (res : List (Option Int)) (s : Nat) : Option Int := match res[s]? with
  | some (some r) => if r < 0 then none else findM b W res r s
  | _ => none
def highM (b : Book) (res : List (Option Int)) (r : Int) : List Nat := (forksM b).filter (hiB res r)
theorem hi_fork {b : Book} {W : Nat} {res : List (Option Int)} {fin : List Nat} (hL : LastM b W res fin) {r : Int} {k : Nat} (h : hiB res r k = true) : k ∈ forksM b := by
  unfold hiB at h
  split at h
  · rename_i x e
    have hk : k < b.length := by
      rw [← last_len hL]
      exact (List.getElem?_eq_some_iff.mp e).1
    by_cases hf : k ∈ forksM b
    · exact hf
    · rw [(last_none hL k).mpr ⟨hk, hf⟩] at e
      cases e
  · cases h
theorem lead_find {b : Book} (fb : FormB b) {W : Nat} {res : List (Option Int)} {fin : List Nat} (hL : LastM b W res fin) (s : Nat) (r : Int) : (leadM b W s (highM b res r)).head? = ((mvs b s).find? (condM b W res r)).map (·.1) := by
  unfold leadM
  rw [List.head?_map]
  have e : (mvs b s).filter (fun p => (ledL b p.2 (W - 1)).any fun k => decide (k ∈ highM b res r)) = (mvs b s).filter (condM b W res r) := by
    refine List.filter_congr fun p hp => ?_
    have hp2 := fb.to hp
    rw [Bool.eq_iff_iff]
    unfold condM
    rw [List.any_eq_true, List.any_eq_true]
    constructor
    · rintro ⟨k, hk, h⟩
      exact ⟨k, (led_ends fb hp2).mp hk, (List.mem_filter.mp (of_decide_eq_true h)).2⟩
    · rintro ⟨k, hk, h⟩
      exact ⟨k, (led_ends fb hp2).mpr hk, decide_eq_true (List.mem_filter.mpr ⟨hi_fork hL h, h⟩)⟩
  rw [e, List.head?_filter]
theorem lead_none {b : Book} (fb : FormB b) {W : Nat} {res : List (Option Int)} {fin : List Nat} (hL : LastM b W res fin) {s : Nat} {r : Int} (h : leadM b W s (highM b res r) = []) : findM b W res r s = frontM b s := by
  have k := lead_find fb hL s r
  rw [h] at k
  unfold findM
  cases e : (mvs b s).find? (condM b W res r) with
  | none => rfl
  | some p => rw [e] at k; cases k
theorem lead_some {b : Book} (fb : FormB b) {W : Nat} {res : List (Option Int)} {fin : List Nat} (hL : LastM b W res fin) {s : Nat} {r : Int} {m : Nat} {l : List Nat} (h : leadM b W s (highM b res r) = m :: l) : findM b W res r s = some (m : Int) := by
  have k := lead_find fb hL s r
  rw [h] at k
  unfold findM
  cases e : (mvs b s).find? (condM b W res r) with
  | none => rw [e] at k; cases k
  | some p =>
    rw [e] at k
    have k := Option.some.inj k
    show some (p.1 : Int) = some (m : Int)
    rw [k]
/-- a fork has a first message -/
theorem fork_first {b : Book} {W : Nat} {res : List (Option Int)} {fin : List Nat} (hL : LastM b W res fin) {s : Nat} {r : Int} (h : res[s]? = some (some r)) : ∃ p l, mvs b s = p :: l ∧ frontM b s = some (p.1 : Int) := by
  have hs : s < b.length := by
    rw [← last_len hL]
    exact (List.getElem?_eq_some_iff.mp h).1
  have hf : s ∈ forksM b := by
    by_cases hf : s ∈ forksM b
    · exact hf
    · rw [(last_none hL s).mpr ⟨hs, hf⟩] at h
      cases h
  have h2 := of_decide_eq_true (mem_filt.mp hf).2
  unfold frontM
  cases e : mvs b s with
  | nil => rw [e] at h2; simp at h2
  | cons p l => exact ⟨p, l, rfl, rfl⟩
def Small2 (l : List (Option Int)) : Prop := ∀ i, some i ∈ l → -1 ≤ i ∧ i < 100
theorem nat100 : ∀ n, n < 100 → PyData.leavesShort 8 (.int ((n : Nat) : Int)) = true := by decide +kernel
theorem int_short2 {i : Int} (h1 : -1 ≤ i) (h2 : i < 100) : PyData.leavesShort 8 (.int i) = true := by
  by_cases h : i = -1
  · subst h
    decide +kernel
  · have := nat100 i.toNat (by omega)
    rwa [Int.toNat_of_nonneg (by omega)] at this
theorem o_short2 : ∀ l : List (Option Int), Small2 l → PyData.leavesShortAll 8 (l.map oD) = true
  | [], _ => rfl
  | none :: r, h => by
    have h2 := o_short2 r fun i hi => h i (List.mem_cons_of_mem _ hi)
    simp only [List.map_cons, oD, PyData.leavesShortAll, PyData.leavesShort, h2, Bool.and_true]
  | some i :: r, h => by
    have h1 := int_short2 (h i (by simp)).1 (h i (by simp)).2
    have h2 := o_short2 r fun i hi => h i (List.mem_cons_of_mem _ hi)
    simp only [List.map_cons, oD, PyData.leavesShortAll, h1, h2, Bool.and_true]
theorem o_show2 : ∀ l : List (Option Int), Small2 l → PyData.showableAll (l.map oD) = true
  | [], _ => rfl
  | none :: r, h => by
    have h2 := o_show2 r fun i hi => h i (List.mem_cons_of_mem _ hi)
    simp only [List.map_cons, oD, PyData.showableAll, PyData.showable, h2, Bool.and_true]
  | some i :: r, h => by
    have h1 := h i (by simp)
    have h3 : i.natAbs.log2 < 1920 := Nat.lt_of_le_of_lt (Nat.log2_le_self _) (by omega)
    have h2 := o_show2 r fun i hi => h i (List.mem_cons_of_mem _ hi)
    simp only [List.map_cons, oD, PyData.showableAll, PyData.showable, h2, h3, decide_true, Bool.and_true]
theorem show_oL {l : List (Option Int)} (h : Small2 l) (hl : l.length ≤ 8) : ShowOk (.list (l.map oD)) where
  a := by
    show PyData.showableAll _ = true
    exact o_show2 l h
  b := by
    show PyData.hasDictAll _ = false
    exact o_nodict l
  c := by
    show PyData.depthAll _ + 1 ≤ 60
    rw [o_depth]
    decide
  d := by
    have k := PyData.shown_le_bulk 8 (Nat.le_refl _) (.list (l.map oD)) (by show PyData.leavesShortAll 8 _ = true; exact o_short2 l h)
    have e : PyData.bulk (.list (l.map oD)) = l.length := by
      show PyData.bulkAll _ = _
      exact o_bulk l
    rw [e] at k
    exact Nat.le_of_lt (small1000 (by omega))
theorem spec_small {b : Book} (fb : FormB b) {W : Nat} {res : List (Option Int)} {s : Nat} {i : Int} (h : specM b W res s = some i) : -1 ≤ i ∧ i < 100 := by
  have key : ∀ p ∈ mvs b s, p.1 ≤ 99 := fun p hp => by
    by_cases hs : s < b.length
    · exact (fb.ok hs).msg p hp
    · rw [mvs_out (by omega)] at hp
      cases hp
  unfold specM at h
  split at h
  · split at h
    · cases h
    · unfold findM at h
      split at h
      · rename_i p e
        have := key p (List.mem_of_find?_eq_some e)
        have h2 : (p.1 : Int) = i := Option.some.inj h
        omega
      · unfold frontM at h
        cases e : (mvs b s)[0]? with
        | none => rw [e] at h; cases h
        | some p =>
          rw [e] at h
          have := key p (List.mem_of_getElem? e)
          have h2 : (p.1 : Int) = i := Option.some.inj h
          omega
  · cases h
end Nv
namespace Nv
theorem find_at {α : Type} {c : α → Bool} : ∀ {l : List α} {i : Nat} {p : α}, l[i]? = some p → (∀ q ∈ l.take i, c q = false) → c p = true → l.find? c = some p
  | [], _, _, h, _, _ => by simp at h
  | x :: r, 0, p, h, _, hc => by
    cases h
    rw [List.find?_cons, hc]
  | x :: r, i + 1, p, h, ha, hc => by
    have hx : c x = false := ha x (by simp)
    rw [List.find?_cons, hx]
    exact find_at (i := i) (by simpa using h) (fun q hq => ha q (by simp [hq])) hc
theorem find_nil {α : Type} {c : α → Bool} {l : List α} (h : ∀ q ∈ l, c q = false) : l.find? c = none := by
  rw [List.find?_eq_none]
  intro x hx
  rw [h x hx]
  simp
theorem mem_take_snoc {α : Type} {l : List α} {i : Nat} {x y : α} (h : l[i]? = some x) (hy : y ∈ l.take (i + 1)) : y ∈ l.take i ∨ y = x := by
  rw [List.take_add_one, h] at hy
  rcases List.mem_append.mp hy with hy | hy
  · exact .inl hy
  · exact .inr (by simpa using hy)
end Nv
set_option Elab.async false
set_option linter.all false
set_option maxRecDepth 100000
namespace Nv
open PySem PySem.Spec PyProof.Rows L2
section
variable {P : Program} {w : World} {K : PySem.W.Frag} {mg : Str → Option Value} {base : Heap}
/-! ### the checks, of any data -/
def intLike : PyData → Bool
  | .int _ => true
  | .bool _ => true
  | _ => false
def isBoolD : PyData → Bool
  | .bool _ => true
  | _ => false
def isTupD : PyData → Bool
  | .tuple _ => true
  | _ => false
theorem kit_int (d : PyData) : kitB (tyD d) "int" = some (intLike d) := by
  cases d with
  | none => exact (by decide +kernel : kitB "NoneType" "int" = some false)
  | bool b => exact (by decide +kernel : kitB "bool" "int" = some true)
  | int i => exact (by decide +kernel : kitB "int" "int" = some true)
  | str x => exact (by decide +kernel : kitB "str" "int" = some false)
  | list l => exact (by decide +kernel : kitB "list" "int" = some false)
  | tuple l => exact (by decide +kernel : kitB "tuple" "int" = some false)
  | dict l => exact (by decide +kernel : kitB "dict" "int" = some false)
theorem kit_bool (d : PyData) : kitB (tyD d) "bool" = some (isBoolD d) := by
  cases d with
  | none => exact (by decide +kernel : kitB "NoneType" "bool" = some false)
  | bool b => exact (by decide +kernel : kitB "bool" "bool" = some true)
  | int i => exact (by decide +kernel : kitB "int" "bool" = some false)
  | str x => exact (by decide +kernel : kitB "str" "bool" = some false)
  | list l => exact (by decide +kernel : kitB "list" "bool" = some false)
  | tuple l => exact (by decide +kernel : kitB "tuple" "bool" = some false)
  | dict l => exact (by decide +kernel : kitB "dict" "bool" = some false)
theorem kit_tup (d : PyData) : kitB (tyD d) "tuple" = some (isTupD d) := by
  cases d with
  | none => exact (by decide +kernel : kitB "NoneType" "tuple" = some false)
  | bool b => exact (by decide +kernel : kitB "bool" "tuple" = some false)
  | int i => exact (by decide +kernel : kitB "int" "tuple" = some false)
  | str x => exact (by decide +kernel : kitB "str" "tuple" = some false)
  | list l => exact (by decide +kernel : kitB "list" "tuple" = some false)
  | tuple l => exact (by decide +kernel : kitB "tuple" "tuple" = some true)
  | dict l => exact (by decide +kernel : kitB "dict" "tuple" = some false)

def sp_wholeD (K : PySem.W.Frag) : Sp := fun vs H Q _ => ∃ (v : V) (d : PyData), vs = [v] ∧ Dp K H v d ∧ Q (.bl (wholeD d)) H
theorem okD_whole (T : Tx K mg) : FnOk P w K mg base CX0 1 T.whole.f T.whole.fd ["thing"] (sp_wholeD K) := by
  refine T.whole.F.ok sc_whole (fun vs H Q E h => ?_) (fun cdv A outer s H vs Q E hr h => ?_)
  · obtain ⟨v, d, rfl, _⟩ := h; rfl
  · obtain ⟨v, d, rfl, hd, q⟩ := h
    refine ⟨_, (pss_one (ps_ret (pe_and (pe_callB call_isi (by rfl) T.n_isinstance (by decide +kernel) (pa_cons (pv 0) (pa_cons (pe_bltn (v := .ty "int") (by rfl) T.n_int (by decide +kernel) rfl) pa_nil))) (pe_one (pe_not (pe_callB call_isi (by rfl) T.n_isinstance (by decide +kernel) (pa_cons (pv 0) (pa_cons (pe_bltn (v := .ty "bool") (by rfl) T.n_bool (by decide +kernel) rfl) pa_nil)))))))), ?_⟩
    have ty := Dp.ty hd
    refine ⟨_, rfl, _, _, _, _, _, rfl, .ty _, ty, kit_ty (kit_int d), _, rfl, ?_⟩
    cases hi : intLike d with
    | false =>
      refine iteF ?_
      have : wholeD d = false := by cases d <;> first | rfl | cases hi
      rw [this] at q
      exact q
    | true =>
      refine iteT ⟨_, rfl, _, _, _, _, _, rfl, .ty _, ty, kit_ty (kit_bool d), _, rfl, ?_⟩
      have : wholeD d = !isBoolD d := by cases d <;> first | rfl | cases hi
      rw [this] at q
      exact q

def sp_whole_withinD (K : PySem.W.Frag) : Sp := fun vs H Q _ => ∃ (v : V) (d : PyData) (a b : Int), vs = [v, .int a, .int b] ∧ Dp K H v d ∧ Q (.bl (inD d a b)) H
theorem okD_whole_within (T : Tx K mg) : FnOk P w K mg base CX0 2 T.whole_within.f T.whole_within.fd ["thing", "low", "high"] (sp_whole_withinD K) := by
  refine T.whole_within.F.ok sc_whole_within (fun vs H Q E h => ?_) (fun cdv A outer s H vs Q E hr h => ?_)
  · obtain ⟨v, d, a, b, rfl, _⟩ := h; rfl
  · obtain ⟨v, d, a, b, rfl, hd, q⟩ := h
    refine ⟨_, (pss_one (ps_ret (pe_and (pe_call (okD_whole T) (hr.mono (by decide)) (by rfl) T.whole.g T.whole.F.kp T.whole.b .nil pass0 (pa_cons (pv 0) pa_nil)) (pe_one (pe_chain op_le op_le (pv 1) (pv 0) (pv 2)))))), ?_⟩
    refine ⟨_, rfl, v, d, rfl, hd, _, rfl, ?_⟩
    cases hd with
    | int i =>
      refine iteT ⟨_, rfl, _, rfl, _, _, rfl, rfl, _, rfl, ?_⟩
      have q : Q (.bl (decide (a ≤ i ∧ i ≤ b))) H := q
      by_cases h1 : a ≤ i
      · rw [decide_eq_true h1]
        refine iteT ⟨_, rfl, _, _, rfl, rfl, ?_⟩
        have e : decide (a ≤ i ∧ i ≤ b) = decide (i ≤ b) := by simp [h1]
        rw [e] at q
        exact q
      · rw [decide_eq_false h1]
        have e : decide (a ≤ i ∧ i ≤ b) = false := by simp [h1]
        rw [e] at q
        exact iteF q
    | non => exact iteF q
    | bl b => exact iteF q
    | str x => exact iteF q
    | lst h1 h2 => exact iteF q
    | tup h1 h2 => exact iteF q

def sp_tuple_withinD (K : PySem.W.Frag) : Sp := fun vs H Q _ => ∃ (v : V) (d : PyData) (a b : Int), vs = [v, .int a, .int b] ∧ Dp K H v d ∧ Q (.bl (tupD d a b)) H
theorem okD_tuple_within (T : Tx K mg) : FnOk P w K mg base CX0 1 T.tuple_within.f T.tuple_within.fd ["thing", "low", "high"] (sp_tuple_withinD K) := by
  refine T.tuple_within.F.ok sc_tuple_within (fun vs H Q E h => ?_) (fun cdv A outer s H vs Q E hr h => ?_)
  · obtain ⟨v, d, a, b, rfl, _⟩ := h; rfl
  · obtain ⟨v, d, a, b, rfl, hd, q⟩ := h
    refine ⟨_, (pss_one (ps_ret (pe_and (pe_callB call_isi (by rfl) T.n_isinstance (by decide +kernel) (pa_cons (pv 0) (pa_cons (pe_bltn (v := .ty "tuple") (by rfl) T.n_tuple (by decide +kernel) rfl) pa_nil))) (pe_one (pe_chain op_le op_le (pv 1) (pe_callB call_len_seq (by rfl) T.n_len PySem.boot_len (pa_cons (pv 0) pa_nil)) (pv 2)))))), ?_⟩
    have ty := Dp.ty hd
    refine ⟨_, rfl, _, _, _, _, _, rfl, .ty _, ty, kit_ty (kit_tup d), _, rfl, ?_⟩
    cases hd with
    | @tup t xs ds ht hds =>
      have len := dpAll_len hds
      refine iteT ⟨_, rfl, _, rfl, t, xs, rfl, .inr ht, _, _, rfl, rfl, _, rfl, ?_⟩
      have q : Q (.bl (decide (a ≤ (ds.length : Int) ∧ (ds.length : Int) ≤ b))) H := q
      rw [← len] at q
      by_cases h1 : a ≤ (xs.length : Int)
      · rw [decide_eq_true h1]
        refine iteT ⟨_, rfl, _, _, rfl, rfl, ?_⟩
        have e : decide (a ≤ (xs.length : Int) ∧ (xs.length : Int) ≤ b) = decide ((xs.length : Int) ≤ b) := by simp [h1]
        rw [e] at q
        exact q
      · rw [decide_eq_false h1]
        have e : decide (a ≤ (xs.length : Int) ∧ (xs.length : Int) ≤ b) = false := by simp [h1]
        rw [e] at q
        exact iteF q
    | non => exact iteF q
    | bl b => exact iteF q
    | str x => exact iteF q
    | int i => exact iteF q
    | lst h1 h2 => exact iteF q
end
end Nv
set_option Elab.async false
set_option linter.all false
set_option maxRecDepth 100000
namespace Nv
open PySem PySem.Spec PyProof.Rows L2
section
variable {P : Program} {w : World} {K : PySem.W.Frag} {mg : Str → Option Value} {base : Heap}
/-! ### the book's form, of any data -/
def intD : PyData → Option Int
  | .int i => some i
  | _ => none
theorem pairD_two {last n : Int} {x y : PyData} : pairD last n (.tuple [x, y]) = if inD x (last + 1) 99 = true ∧ inD y 0 (n - 1) = true then intD x else none := by
  cases x with
  | int m =>
    cases y with
    | int t =>
      simp only [pairD, inD, intD, decide_eq_true_eq]
      by_cases h : last + 1 ≤ m ∧ m ≤ 99 ∧ 0 ≤ t ∧ t ≤ n - 1
      · rw [if_pos h, if_pos ⟨⟨h.1, h.2.1⟩, h.2.2.1, h.2.2.2⟩]
      · rw [if_neg h, if_neg fun z => h ⟨z.1.1, z.1.2, z.2.1, z.2.2⟩]
    | _ => simp [pairD, inD]
  | _ => simp [pairD, inD]
theorem pairD_not {last n : Int} {d : PyData} (h : tupD d 2 2 = false) : pairD last n d = none := by
  cases d with
  | tuple ds =>
    match ds, h with
    | [], _ => rfl
    | [x], _ => cases x <;> rfl
    | [x, y], h => exact absurd h (by show ¬ decide ((2 : Int) ≤ 2 ∧ (2 : Int) ≤ 2) = false; decide)
    | x :: y :: z :: r, _ => cases x <;> cases y <;> rfl
  | _ => rfl
theorem tupD_true {d : PyData} {a b : Int} (h : tupD d a b = true) : ∃ ds, d = .tuple ds ∧ a ≤ (ds.length : Int) ∧ (ds.length : Int) ≤ b := by
  cases d with
  | tuple ds => exact ⟨ds, rfl, of_decide_eq_true h⟩
  | _ => cases h
theorem pairs_drop {last n : Int} {ds : List PyData} {k : Nat} {d : PyData} (h : ds[k]? = some d) : pairsD last n (ds.drop k) = match pairD last n d with | some m => pairsD m n (ds.drop (k + 1)) | none => false := by
  obtain ⟨hk, e⟩ := List.getElem?_eq_some_iff.mp h
  rw [List.drop_eq_getElem_cons hk, e]
  rfl

def sp_has_state_formD (K : PySem.W.Frag) : Sp := fun vs H Q _ => ∃ (v : V) (d : PyData) (n : Int), vs = [v, .int n] ∧ Dp K H v d ∧ Q (.bl (stateD n d)) H
theorem okD_has_state_form (T : Tx K mg) : FnOk P w K mg base CX0 3 T.has_state_form.f T.has_state_form.fd ["thing", "many"] (sp_has_state_formD K) := by
  refine T.has_state_form.F.ok sc_has_state_form (fun vs H Q E h => ?_) (fun cdv A outer s H vs Q E hr h => ?_)
  · obtain ⟨v, d, n, rfl, _⟩ := h; rfl
  · obtain ⟨v, d, n, rfl, hd, q⟩ := h
    refine ⟨_, (pss_cons (ps_if (pt_not (pt_val (pe_call (okD_tuple_within T) (hr.mono (by decide)) (by rfl) T.tuple_within.g T.tuple_within.F.kp T.tuple_within.b .nil pass0 (pa_cons (pv 0) (pa_cons pe_int (pa_cons (pe_glob (v := .int 5) (by rfl) T.c_MOST_MESSAGES.choose_spec ⟨_, rfl⟩) pa_nil))))))
        (pss_one (ps_ret pe_bl))
        pss_nil)
      (pss_cons (ps_set (i := 2) sc_has_state_form.nd rfl (.inl rfl) (pe_un un_neg pe_int))
      (pss_cons (ps_for PassesOwn.never rfl (pi_tup (pv 0)) (pg_name (i := 3) sc_has_state_form.nd rfl (.inl rfl))
        (pss_cons (ps_if (pt_not (pt_val (pe_call (okD_tuple_within T) (hr.mono (by decide)) (by rfl) T.tuple_within.g T.tuple_within.F.kp T.tuple_within.b .nil pass0 (pa_cons (pv 3) (pa_cons pe_int (pa_cons pe_int pa_nil))))))
          (pss_one (ps_ret pe_bl))
          pss_nil)
        (pss_cons (ps_asg (pv 3) (pg_tup rfl (pgs_cons (pg_name (i := 4) sc_has_state_form.nd rfl (.inl rfl)) (pgs_cons (pg_name (i := 5) sc_has_state_form.nd rfl (.inl rfl)) pgs_nil))))
        (pss_cons (ps_if (PW.pt (pw_or (pt_not (pt_val (pe_call (okD_whole_within T) (hr.mono (by decide)) (by rfl) T.whole_within.g T.whole_within.F.kp T.whole_within.b .nil pass0 (pa_cons (pv 4) (pa_cons (pe_op op_add (pv 2) pe_int) (pa_cons (pe_glob (v := .int 99) (by rfl) T.c_GREATEST_MESSAGE.choose_spec ⟨_, rfl⟩) pa_nil)))))) (pw_or1 (pt_not (pt_val (pe_call (okD_whole_within T) (hr.mono (by decide)) (by rfl) T.whole_within.g T.whole_within.F.kp T.whole_within.b .nil pass0 (pa_cons (pv 5) (pa_cons pe_int (pa_cons (pe_op op_sub (pv 1) pe_int) pa_nil)))))))))
          (pss_one (ps_ret pe_bl))
          pss_nil)
        (pss_one (ps_set (i := 2) sc_has_state_form.nd rfl (.inl rfl) (pv 4)))))))
      (pss_one (ps_ret pe_bl))))), ?_⟩
    refine ⟨_, rfl, v, d, 0, 5, rfl, hd, _, rfl, ?_⟩
    cases ht : tupD d 0 5 with
    | false =>
      have e : stateD n d = false := by
        cases d with
        | tuple ds =>
          have ht : decide ((0 : Int) ≤ (ds.length : Int) ∧ (ds.length : Int) ≤ 5) = false := ht
          have h5 : ¬ ds.length ≤ 5 := fun z => by
            have := of_decide_eq_false ht
            omega
          show (decide (ds.length ≤ 5) && pairsD (-1) n ds) = false
          rw [decide_eq_false h5]
          rfl
        | _ => rfl
      rw [e] at q
      exact iteT q
    | true =>
      obtain ⟨ds, rfl, _, h5⟩ := tupD_true ht
      cases hd with
      | @tup t xs _ hT hds =>
        have len := dpAll_len hds
        have e : stateD n (.tuple ds) = pairsD (-1) n ds := by
          show (decide (ds.length ≤ 5) && pairsD (-1) n ds) = _
          rw [decide_eq_true (by omega)]
          rfl
        rw [e] at q
        refine iteF ⟨1, rfl, ?_⟩
        refine ⟨_, rfl, t, rfl, ⟨_, hT⟩, for_tup (K := K) (a := t) (xs := xs) (fun k σ H' => H' = H ∧ ∃ (z : Int) (y3 y4 y5 : Option V), σ = [some (.ref t), some (.int n), some (.int z), y3, y4, y5] ∧ pairsD (-1) n ds = pairsD z n (ds.drop k))
          ⟨rfl, -1, _, _, _, rfl, rfl⟩ (fun k σ H' _ ⟨e, _⟩ => by rw [e]; exact hT) ?_ ?_⟩
        · rintro k v σ H' hv ⟨rfl, z, y3, y4, y5, rfl, hz⟩
          obtain ⟨dk, hdk, hDp⟩ := dpAll_get' hds hv
          rw [hz, pairs_drop hdk] at q
          refine ⟨_, rfl, v, dk, 2, 2, rfl, hDp, _, rfl, ?_⟩
          cases h2 : tupD dk 2 2 with
          | false =>
            rw [pairD_not h2] at q
            exact iteT q
          | true =>
            obtain ⟨l2, rfl, l2a, l2b⟩ := tupD_true h2
            match l2, l2a, l2b with
            | [x, y], _, _ =>
              cases hDp with
              | @tup c ys _ hc hys =>
                cases hys with
                | @cons vx _ _ _ hx r =>
                  cases r with
                  | @cons vy _ _ _ hy r2 =>
                    cases r2
                    refine iteF ⟨_, rfl, c, _, rfl, hc, rfl, _, _, rfl, _, _, rfl, rfl, ?_⟩
                    rw [pairD_two] at q
                    refine ⟨_, rfl, _, rfl, _, _, rfl, rfl, vx, x, _, _, rfl, hx, _, rfl, ?_⟩
                    cases hix : inD x (z + 1) 99 with
                    | false =>
                      rw [hix, if_neg (fun w => by cases w.1)] at q
                      exact iteT q
                    | true =>
                      refine iteF ⟨_, rfl, _, rfl, _, _, rfl, rfl, vy, y, _, _, rfl, hy, _, rfl, ?_⟩
                      cases hiy : inD y 0 (n - 1) with
                      | false =>
                        rw [hix, hiy, if_neg (fun w => by cases w.2)] at q
                        exact iteT q
                      | true =>
                        rw [hix, hiy, if_pos ⟨rfl, rfl⟩] at q
                        cases hx with
                        | int m => 
                          refine iteF ⟨_, rfl, rfl, m, _, _, _, rfl, ?_⟩
                          rw [hz, pairs_drop hdk, pairD_two, hix, hiy, if_pos ⟨rfl, rfl⟩]
                          rfl
                        | non => cases hix
                        | bl b => cases hix
                        | str b => cases hix
                        | lst _ _ => cases hix
                        | tup _ _ => cases hix
        · rintro σ H' ⟨rfl, z, y3, y4, y5, rfl, hz⟩
          rw [hz, len, List.drop_length] at q
          exact q
end
end Nv
set_option Elab.async false
set_option linter.all false
set_option maxRecDepth 100000
namespace Nv
open PySem PySem.Spec PyProof.Rows L2
section
variable {P : Program} {w : World} {K : PySem.W.Frag} {mg : Str → Option Value} {base : Heap}
/-! ### what is raised -/
theorem sc_init : FnScope ["self", "what"] ["self", "what"] (defScope s_init) := ⟨rfl, rfl, rfl, by decide +kernel, rfl, by decide +kernel, by decide +kernel⟩
theorem ok_init (T : Tx K mg) : FnOk P w K mg base CX0 1 T.init.f T.init.fd ["self", "what"] (sp_init K) := by
  refine T.init.F.ok sc_init (fun vs H Q E h => ?_) (fun cdv A outer s H vs Q E hr h => ?_)
  · obtain ⟨a, C, y, nm, rfl, _⟩ := h; rfl
  · obtain ⟨a, C, y, nm, rfl, ha, o, no, nn, q⟩ := h
    refine ⟨_, (pss_cons (ps_ost (pv 0) (pv 1))
      (pss_one (ps_ost (pv 0) (pe_kind (pv 0))))), ?_⟩
    refine ⟨_, rfl, _, rfl, a, C, rfl, o, no, .inl ⟨ha, fun dx nd ne => ?_⟩⟩
    refine ⟨_, rfl, a, C, dx, _, nm, rfl, upd_same, by rw [upd_ne ne, upd_same], nn, _, rfl, a, C, rfl, o, nn.nk, .inr ⟨dx, _, upd_same, by rw [upd_ne ne, upd_same], by show 1 ≤ 900; decide, ?_⟩⟩
    have e : upd (upd (upd H dx (exd dx [("what", y)])) a (exo a C (some dx))) dx (exd dx [("kind", .str nm), ("what", y)]) = upd (upd H dx (exd dx [("kind", .str nm), ("what", y)])) a (exo a C (some dx)) := by
      funext b
      by_cases h1 : b = dx
      · rw [h1, upd_same, upd_ne ne, upd_same]
      · rw [upd_ne h1]
        by_cases h2 : b = a
        · rw [h2, upd_same, upd_same]
        · rw [upd_ne h2, upd_ne h2, upd_ne h1, upd_ne h1]
    rw [e]
    exact q dx nd ne

def sp_check_formX (K : PySem.W.Frag) (C : Addr) : Sp := fun vs H Q E => ∃ (v : V) (d : PyData), vs = [v] ∧ Dp K H v d ∧ (formErr d = none → Q .non H) ∧ ∀ e, formErr d = some e → ∀ dx, H dx = none → E (.ref C) (some dx) (upd H dx (xdW "BadBook" (.int e)))
theorem okX_check_form (T : Tx K mg) : FnOk P w K mg base (L2.CX P w) 4 T.check_form.f T.check_form.fd ["thing"] (sp_check_formX K T.x_BadBook.C) := by
  refine T.check_form.F.okX sc_check_form (fun vs H Q E h => ?_) (fun cdv A outer s H vs Q E hr h => ?_)
  · obtain ⟨v, d, rfl, _⟩ := h; rfl
  · obtain ⟨v, d, rfl, hd, q, qe⟩ := h
    refine ⟨_, (pss_cons (ps_if (pt_not (pt_val (pe_call (okD_tuple_within T) (hr.mono (by decide)) (by rfl) T.tuple_within.g T.tuple_within.F.kp T.tuple_within.b .nil pass0 (pa_cons (pv 0) (pa_cons pe_int (pa_cons (pe_glob (v := .int 8) (by rfl) T.c_MOST_STATES.choose_spec ⟨_, rfl⟩) pa_nil))))))
        (pss_one (ps_raise rfl (takes_of rfl rfl rfl rfl) (pmk_X T.x_BadBook T.init.ti (ok_init T) (hr.mono (by decide)) T.init.b (by rfl) (pe_un un_neg pe_int))))
        pss_nil)
      (pss_one (ps_for (passes_of rfl) rfl (pi_range1 (by rfl) T.n_range (pa_cons (pe_callB call_len_seq (by rfl) T.n_len PySem.boot_len (pa_cons (pv 0) pa_nil)) pa_nil)) (pg_name (i := 1) sc_check_form.nd rfl (.inl rfl))
        (pss_one (ps_if (pt_not (pt_val (pe_call (okD_has_state_form T) (hr.mono (by decide)) (by rfl) T.has_state_form.g T.has_state_form.F.kp T.has_state_form.b .nil pass0 (pa_cons (pe_ix ix_tup (pv 0) (pv 1) (fun _ _ => rfl)) (pa_cons (pe_callB call_len_seq (by rfl) T.n_len PySem.boot_len (pa_cons (pv 0) pa_nil)) pa_nil)))))
          (pss_one (ps_raise rfl (takes_of rfl rfl rfl rfl) (pmk_X T.x_BadBook T.init.ti (ok_init T) (hr.mono (by decide)) T.init.b (by rfl) (pv 1))))
          pss_nil))))), ?_⟩
    refine ⟨_, rfl, v, d, 1, 8, rfl, hd, _, rfl, ?_⟩
    cases ht : tupD d 1 8 with
    | false =>
      have e : formErr d = some (-1) := by
        cases d with
        | tuple ds =>
          have ht : decide ((1 : Int) ≤ (ds.length : Int) ∧ (ds.length : Int) ≤ 8) = false := ht
          show (if 1 ≤ ds.length ∧ ds.length ≤ 8 then firstBad ds.length ds 0 else some (-1)) = some (-1)
          rw [if_neg]
          intro z
          have := of_decide_eq_false ht
          omega
        | _ => rfl
      exact iteT ⟨1, rfl, fun dx nd => qe _ e dx nd⟩
    | true =>
      obtain ⟨ds, rfl, l1, l8⟩ := tupD_true ht
      cases hd with
      | @tup t xs _ hT hds =>
        have len := dpAll_len hds
        have e : formErr (.tuple ds) = firstBad ds.length ds 0 := by
          show (if 1 ≤ ds.length ∧ ds.length ≤ 8 then firstBad ds.length ds 0 else some (-1)) = _
          rw [if_pos ⟨by omega, by omega⟩]
        rw [e] at q qe
        refine iteF ⟨_, rfl, t, _, rfl, .inr hT, _, rfl, by omega, by omega, for_range (lo := 0) (n := _) (fun k σ H' => H' = H ∧ ∃ y : Option V, σ = [some (.ref t), y] ∧ firstBad ds.length ds 0 = firstBad ds.length (ds.drop k) k) ⟨rfl, _, rfl, rfl⟩ ?_ ?_⟩
        · rintro k σ H' hk ⟨rfl, y, rfl, hb⟩
          have hk : k < ds.length := by
            have : ((xs.length : Int)).toNat = xs.length := Int.toNat_natCast _
            omega
          simp only [Int.zero_add]
          obtain ⟨vk, hvk, hDk⟩ := dpAll_get hds (List.getElem?_eq_getElem hk)
          have step : firstBad ds.length (ds.drop k) k = if stateD ds.length ds[k] = true then firstBad ds.length (ds.drop (k + 1)) (k + 1) else some (k : Int) := by
            rw [List.drop_eq_getElem_cons hk]
            rfl
          refine ⟨_, rfl, _, rfl, t, _, _, _, rfl, rfl, hT, atI_nat hvk, _, rfl, t, _, rfl, .inr hT, vk, ds[k], _, rfl, hDk, _, rfl, ?_⟩
          rw [len]
          cases hs : stateD ds.length ds[k] with
          | true =>
            rw [hs, if_pos rfl] at step
            exact iteF ⟨rfl, _, rfl, hb.trans step⟩
          | false =>
            rw [hs, if_neg (by simp)] at step
            exact iteT ⟨_, rfl, fun dx nd => qe _ (hb.trans step) dx nd⟩
        · rintro σ H' ⟨rfl, y, rfl, hb⟩
          have : ((xs.length : Int)).toNat = ds.length := by omega
          rw [this, List.drop_length] at hb
          exact q hb
end
end Nv
set_option Elab.async false
set_option linter.all false
set_option maxRecDepth 100000
namespace Nv
open PySem PySem.Spec PyProof.Rows L2
section
variable {P : Program} {w : World} {K : PySem.W.Frag} {mg : Str → Option Value} {base : Heap}
/-! ### books as data -/
def stD (s : State) : PyData := .tuple (s.map mvD)
def bookD (b : Book) : PyData := .tuple (b.map stD)
theorem pairs_st {n : Nat} : ∀ (s : State) (last : Int), (s.map (·.1)).Pairwise (· < ·) → (∀ p ∈ s, last < (p.1 : Int)) → (∀ p ∈ s, p.1 ≤ 99) → (∀ p ∈ s, p.2 < n) → pairsD last n (s.map mvD) = true
  | [], _, _, _, _, _ => rfl
  | p :: r, last, h1, h2, h3, h4 => by
    rw [List.map_cons, List.pairwise_cons] at h1
    have a := h2 p (by simp)
    have b := h3 p (by simp)
    have c := h4 p (by simp)
    have e : pairD last n (mvD p) = some (p.1 : Int) := by
      show (if last + 1 ≤ (p.1 : Int) ∧ (p.1 : Int) ≤ 99 ∧ (0 : Int) ≤ p.2 ∧ (p.2 : Int) ≤ n - 1 then some (p.1 : Int) else none) = _
      rw [if_pos ⟨by omega, by omega, by omega, by omega⟩]
    rw [List.map_cons, pairs_cons, e]
    refine pairs_st r (p.1 : Int) h1.2 (fun q hq => ?_) (fun q hq => h3 q (List.mem_cons_of_mem _ hq)) (fun q hq => h4 q (List.mem_cons_of_mem _ hq))
    have := h1.1 q.1 (List.mem_map.mpr ⟨q, hq, rfl⟩)
    omega
theorem state_ok {n : Nat} {s : State} (h : StOk n s) : stateD n (stD s) = true := by
  show (decide ((s.map mvD).length ≤ 5) && pairsD (-1) n (s.map mvD)) = true
  rw [pairs_st s (-1) h.rise (fun p _ => by omega) h.msg h.to, List.length_map, decide_eq_true h.few]
  rfl
theorem first_ok {n : Nat} : ∀ (l : List PyData) (i : Nat), (∀ d ∈ l, stateD n d = true) → firstBad n l i = none
  | [], _, _ => rfl
  | d :: r, i, h => by
    show (if stateD n d = true then firstBad n r (i + 1) else some (i : Int)) = none
    rw [if_pos (h d (by simp)), first_ok r (i + 1) fun e he => h e (List.mem_cons_of_mem _ he)]
theorem form_none {b : Book} (fb : FormB b) : formErr (bookD b) = none := by
  show (if 1 ≤ (b.map stD).length ∧ (b.map stD).length ≤ 8 then firstBad (b.map stD).length (b.map stD) 0 else some (-1)) = none
  rw [List.length_map, if_pos ⟨fb.one, fb.eight⟩]
  refine first_ok _ _ fun d hd => ?_
  obtain ⟨s, hs, rfl⟩ := List.mem_map.mp hd
  exact state_ok (fb.st s hs)
theorem first_at {n : Nat} : ∀ (l : List PyData) (i k : Nat) (d : PyData), l[k]? = some d → stateD n d = false → (∀ j e, j < k → l[j]? = some e → stateD n e = true) → firstBad n l i = some ((i + k : Nat) : Int)
  | [], _, _, _, h, _, _ => by simp at h
  | d :: r, i, 0, e, h, hb, _ => by
    cases h
    show (if stateD n d = true then firstBad n r (i + 1) else some (i : Int)) = _
    rw [if_neg (by rw [hb]; simp)]
    rfl
  | d :: r, i, k + 1, e, h, hb, hok => by
    show (if stateD n d = true then firstBad n r (i + 1) else some (i : Int)) = _
    rw [if_pos (hok 0 d (Nat.zero_lt_succ _) rfl), first_at r (i + 1) k e (by simpa using h) hb fun j f hj hf => hok (j + 1) f (by omega) (by simpa using hf)]
    congr 2
    omega
theorem mv_of {K : PySem.W.Frag} {H : Hp} : ∀ {s : State} {vs : List V}, DpAll K H vs (s.map mvD) → ∃ ps : List Addr, vs = ps.map V.ref ∧ Paired (MvV K H) ps s
  | [], _, .nil => ⟨[], rfl, .nil⟩
  | p :: r, _, .cons h t => by
    obtain ⟨ps, e, hp⟩ := mv_of t
    cases h with
    | tup hc hds =>
      cases hds with
      | cons h1 r1 =>
        cases r1 with
        | cons h2 r2 =>
          cases r2
          cases h1
          cases h2
          exact ⟨_ :: ps, by rw [e]; rfl, .cons hc hp⟩
theorem bk_of {K : PySem.W.Frag} {H : Hp} : ∀ {b : Book} {vs : List V}, DpAll K H vs (b.map stD) → Paired (StW K H) vs b
  | [], _, .nil => .nil
  | s :: r, _, .cons h t => by
    cases h with
    | tup hc hds =>
      obtain ⟨ps, rfl, hp⟩ := mv_of hds
      exact .cons ⟨_, ps, rfl, hc, hp⟩ (bk_of t)
theorem BkW.of {K : PySem.W.Frag} {H : Hp} {v : V} {b : Book} (h : Dp K H v (bookD b)) : BkW K H v b := by
  cases h with
  | tup hc hds => exact ⟨_, _, rfl, hc, bk_of hds⟩
/-! ### what made_book raises -/
/-- the first state to which no row comes -/
def StrayAt (b : Book) (s : Nat) : Prop := s < b.length ∧ ¬ Rch b s ∧ ∀ t, t < s → Rch b t
theorem Met.rch {b : Book} {F : List Nat} (m : Met b F) : ∀ (n j s : Nat), j ≤ n → F[j]? = some s → Rch b s := by
  intro n
  induction n with
  | zero =>
    intro j s hj e
    have : j = 0 := by omega
    subst this
    rw [m.zero] at e
    cases e
    exact .zero
  | succ n ih =>
    intro j s hj e
    by_cases h0 : j = 0
    · subst h0
      rw [m.zero] at e
      cases e
      exact .zero
    · obtain ⟨i, s', hi, hs', p, hp, rfl⟩ := m.from_ j s e h0
      exact .step (ih i s' (by omega) hs') hp
theorem Met.iff {b : Book} {F : List Nat} (m : Met b F) (s : Nat) : s ∈ F ↔ Rch b s := by
  constructor
  · intro h
    obtain ⟨j, hj, e⟩ := List.mem_iff_getElem.mp h
    exact m.rch j j s (Nat.le_refl _) (by rw [List.getElem?_eq_getElem hj, e])
  · exact m.all
/-- refused: a wrong form, or a stray -/
inductive Ref (CB CS : Addr) (d : PyData) : Addr → Int → Prop
  | form {e : Int} : formErr d = some e → Ref CB CS d CB e
  | stray {b : Book} {s : Nat} : d = bookD b → FormB b → StrayAt b s → Ref CB CS d CS s
/-- the way out of a refusal -/
def Outs (H : Hp) (E : XK) (C : Addr) (e : Int) : Prop := ∀ dx H', H dx = none → XdAt H' dx (.int e) → Ext [] H H' → E (.ref C) (some dx) H'
def sp_refused (K : PySem.W.Frag) (CB CS : Addr) : Sp := fun vs H _ E => ∃ (v : V) (d : PyData) (C : Addr) (e : Int), vs = [v] ∧ Dp K H v d ∧ Ref CB CS d C e ∧ Outs H E C e

theorem okX_made_book (T : Tx K mg) : FnOk P w K mg base (L2.CX P w) 5 T.made_book.f T.made_book.fd ["thing"] (sp_refused K T.x_BadBook.C T.x_Stray.C) := by
  refine T.made_book.F.okX sc_made_book (fun vs H Q E h => ?_) (fun cdv A outer s H vs Q E hr h => ?_)
  · obtain ⟨v, d, C, e, rfl, _⟩ := h; rfl
  · obtain ⟨v, d, C, e, rfl, hd, href, q⟩ := h
    refine ⟨_, (pss_cons (ps_expr (pe_call (okX_check_form T) (hr.mono (by decide)) (by rfl) T.check_form.g T.check_form.F.kp T.check_form.b .nil (passes_call (takes_of rfl rfl rfl rfl) (fun _ _ _ _ h => h)) (pa_cons (pv 0) pa_nil)))
      (pss_cons (ps_set (i := 1) sc_made_book.nd rfl (.inl rfl) (pe_call (ok_first_rows T) (hr.mono (by decide)) (by rfl) T.first_rows.g T.first_rows.F.kp T.first_rows.bD.choose_spec.2 T.first_rows.bD.choose_spec.1 pass0 (pa_cons (pv 0) pa_nil)))
      (pss_cons (ps_for (passes_of rfl) rfl (pi_range1 (by rfl) T.n_range (pa_cons (pe_callB call_len_seq (by rfl) T.n_len PySem.boot_len (pa_cons (pv 0) pa_nil)) pa_nil)) (pg_name (i := 2) sc_made_book.nd rfl (.inl rfl))
        (pss_one (ps_if (pt_cmp (pc_dnotin (hu_of hr) (pv 2) (pv 1)))
          (pss_one (ps_raise rfl (takes_of rfl rfl rfl rfl) (pmk_X T.x_Stray T.init.ti (ok_init T) (hr.mono (by decide)) T.init.b (by rfl) (pv 2))))
          pss_nil)))
      (PSs.nox (pss_one (ps_ret (pv 0))))))), ?_⟩
    refine ⟨_, rfl, v, d, rfl, hd, ?_⟩
    cases href with
    | form he => exact ⟨fun h => (by rw [he] at h; cases h), fun e2 he2 dx nd => (by rw [he] at he2; cases he2; exact q dx _ nd ⟨_, upd_same⟩ (.new nd))⟩
    | @stray b st eb fb hst =>
      subst eb
      have fn := form_none fb
      refine ⟨fun _ => ?_, fun e2 he2 => (by rw [fn] at he2; cases he2)⟩
      have hw := BkW.of hd
      refine ⟨_, rfl, v, b, rfl, hw, fb, fun F kvs dd H' mt hk hdd e => ?_⟩
      obtain ⟨a, ls, rfl, ha, hls⟩ := hw
      have llen := Paired.len hls
      have h8 := fb.eight
      obtain ⟨s1, s2, s3⟩ := hst
      refine ⟨_, rfl, a, _, rfl, .inr (e.tup Lsts.nil ha), _, rfl, by omega, by omega, for_range (lo := 0) (n := _) (fun k σ H2 => H2 = H' ∧ k ≤ st ∧ ∃ y : Option V, σ = [some (.ref a), some (.ref dd), y]) ⟨rfl, Nat.zero_le _, _, rfl⟩ ?_ ?_⟩
      · rintro k σ H2 hk' ⟨rfl, hle, y, rfl⟩
        simp only [Int.zero_add]
        refine ⟨_, rfl, _, rfl, dd, _, rfl, DGet.k (k := kN k) hdd, _, rfl, ?_⟩
        rw [valV_key hk]
        by_cases hks : k = st
        · subst hks
          rw [decide_eq_false (fun z => s2 ((mt.iff _).mp z))]
          refine iteT ⟨_, rfl, fun dx nd => q dx _ (e.free nd) ⟨_, upd_same⟩ (e.put2 nd)⟩
        · rw [decide_eq_true ((mt.iff _).mpr (s3 k (by omega)))]
          exact iteF ⟨rfl, by omega, _, rfl⟩
      · rintro σ H2 ⟨rfl, hle, y, rfl⟩
        exfalso
        have : ((ls.length : Int)).toNat = ls.length := Int.toNat_natCast _
        omega

theorem okX_knots (T : Tx K mg) : FnOk P w K mg base (L2.CX P w) 6 T.knots.f T.knots.fd ["book"] (sp_refused K T.x_BadBook.C T.x_Stray.C) := by
  refine T.knots.F.okX sc_knots (fun vs H Q E h => ?_) (fun cdv A outer s H vs Q E hr h => ?_)
  · obtain ⟨v, d, C, e, rfl, _⟩ := h; rfl
  · obtain ⟨v, d, C, e, rfl, hd, href, q⟩ := h
    refine ⟨_, (pss_cons (ps_expr (pe_call (okX_made_book T) (hr.mono (by decide)) (by rfl) T.made_book.g T.made_book.F.kp T.made_book.b .nil (passes_call (takes_of rfl rfl rfl rfl) (fun _ _ _ _ h => h)) (pa_cons (pv 0) pa_nil)))
      (PSs.nox (pss_one (ps_ret (pe_callTy call_tupZ (by rfl) T.n_tuple (by decide +kernel) (pa_cons (pe_lc (own := [("state", 1)]) rfl sc_knots.nd (pi_range1 (by rfl) T.n_range (pa_cons (pe_callB call_len_seq (by rfl) T.n_len PySem.boot_len (pa_cons (pv 0) pa_nil)) pa_nil)) (blkOk_by (own := [("state", 1)]) (N := ["book", "state"]) (sc := defScope s_knots) (by decide +kernel)) (fun _ _ _ _ _ => (pg_name (i := 1) sc_knots.nd rfl (.inl rfl))) (fun _ _ _ _ _ => pts_one (pt_mid (pt_cmpR op_gt (pe_call (ok_ways_back T) (hr.mono (by decide)) (by rfl) T.ways_back.g T.ways_back.F.kp T.ways_back.b .nil pass0 (pa_cons (pv 0) (pa_cons (pv 1) pa_nil))) pe_int (nomark _)))) (fun _ _ _ _ _ => (pv 1))) pa_nil)))))), ?_⟩
    exact ⟨_, rfl, v, d, C, e, rfl, hd, href, q⟩
end
end Nv
set_option Elab.async false
set_option linter.all false
set_option maxRecDepth 100000
namespace Nv
open PySem PySem.Spec PyProof.Rows L2
section
variable {P : Program} {w : World} {K : PySem.W.Frag} {mg : Str → Option Value} {base : Heap}
/-! ### things that are no books -/
def six0 : List PyData := (List.range 6).map fun m : Nat => .tuple [.int (m : Int), .int 0]
def dat1 : PyData := .tuple six0
def lenO (n : Nat) (d : PyData) (σ : L2.St) : Option PyData := if σ.length = n then some d else none
theorem dp_six {K : PySem.W.Frag} {H : Hp} : ∀ {xs : List V} {l : List Nat}, Paired (fun (v : V) (m : Nat) => ∃ t, v = .ref t ∧ H t = some (.tup [nV m, .int 0])) xs l → DpAll K H xs (l.map fun m : Nat => .tuple [.int (m : Int), .int 0])
  | _, _, .nil => .nil
  | _, _, .cons r t => by
    obtain ⟨a, rfl, h⟩ := r
    exact .cons (.tup (.of h) (.cons (.int _) (.cons (.int _) .nil))) (dp_six t)
theorem cutOne (xs : List V) : cutV xs none (some 1) = xs.take 1 := by
  unfold cutV
  cases xs with
  | nil => simp
  | cons x r => simp [HT.sIx]
theorem dpAll_take {K : PySem.W.Frag} {H : Hp} : ∀ {vs : List V} {ds : List PyData} (n : Nat), DpAll K H vs ds → DpAll K H (vs.take n) (ds.take n)
  | _, _, 0, _ => by simp; exact .nil
  | _, _, n + 1, .nil => by simp; exact .nil
  | _, _, n + 1, .cons r t => by simp; exact .cons r (dpAll_take n t)
theorem sc_law_win_no_books : FnScope ["pool", "book", "at", "states", "bad", "found", "some", "message", "thing"] ["pool", "book"] (defScope s_law_win_no_books) := ⟨rfl, rfl, rfl, by decide +kernel, rfl, by decide +kernel, by decide +kernel⟩
/-- a pair of a thing that is refused and what is heard of it -/
def Entry (K : PySem.W.Frag) (CB CS : Addr) (H : Hp) (v : V) : Prop := ∃ (t : Addr) (vt : V) (d : PyData) (C : Addr) (e : Int) (nm : Str), v = .ref t ∧ SqT K H t [vt, .str (nm ++ toString e)] ∧ Dp K H vt d ∧ noL d = true ∧ Ref CB CS d C e ∧ ((C = CB ∧ nm = "BadBook ") ∨ (C = CS ∧ nm = "Stray ")) ∧ -1 ≤ e ∧ e ≤ 8
theorem Entry.ext {K : PySem.W.Frag} {CB CS : Addr} {L : List Addr} {H H' : Hp} {v : V} (h : Entry K CB CS H v) (e : Ext L H H') (l : Lsts L H) : Entry K CB CS H' v := by
  obtain ⟨t, vt, d, C, x, nm, rfl, h1, h2, h3, r⟩ := h
  exact ⟨t, vt, d, C, x, nm, rfl, e.tup l h1, Dp.extL e l h2 h3, h3, r⟩
theorem Entry.ext0 {K : PySem.W.Frag} {CB CS : Addr} {H H' : Hp} {v : V} (h : Entry K CB CS H v) (e : Ext [] H H') : Entry K CB CS H' v := h.ext e Lsts.nil
def badA (n : Int) : List PyData := [.none, .int 5, .tuple [.tuple [.int 0]], .tuple [.tuple [.int 0, .int 0, .int 0]], .tuple [.int 0, .int 0], .tuple [.tuple [.int 100, .int 0]], .tuple [.tuple [.int (-1), .int 0]], .tuple [.tuple [.bool true, .int 0]], .tuple [.tuple [.int 0, .int n]], .tuple [.tuple [.int 0, .int (-1)]]]
def badB : List PyData := [.tuple [.tuple [.int 0, .bool false]], .tuple [.tuple [.int 1, .int 0], .tuple [.int 0, .int 0]], .tuple [.tuple [.int 0, .int 0], .tuple [.int 0, .int 0]], dat1, .tuple [.none]]
theorem bad_all (n : Int) : ∀ d ∈ badA n ++ badB, stateD n d = false := by
  intro d hd
  rcases List.mem_append.mp hd with hd | hd
  · simp only [badA, List.mem_cons, List.not_mem_nil, or_false] at hd
    rcases hd with rfl | rfl | rfl | rfl | rfl | rfl | rfl | rfl | rfl | rfl <;> simp [stateD, pairsD, pairD]
    rw [if_neg (by omega)]
  · simp only [badB, List.mem_cons, List.not_mem_nil, or_false] at hd
    rcases hd with rfl | rfl | rfl | rfl | rfl
    · simp [stateD, pairsD, pairD]
    · by_cases h : 1 ≤ n <;> simp [stateD, pairsD, pairD, h]
    · by_cases h : 1 ≤ n <;> simp [stateD, pairsD, pairD, h]
    · rfl
    · simp [stateD, pairsD, pairD]
theorem bad_noL (n : Int) : ∀ d ∈ badA n ++ badB, noL d = true := by
  intro d hd
  rcases List.mem_append.mp hd with hd | hd
  · simp only [badA, List.mem_cons, List.not_mem_nil, or_false] at hd
    rcases hd with rfl | rfl | rfl | rfl | rfl | rfl | rfl | rfl | rfl | rfl <;> rfl
  · simp only [badB, List.mem_cons, List.not_mem_nil, or_false] at hd
    rcases hd with rfl | rfl | rfl | rfl | rfl <;> rfl
def things : List PyData := [.none, .int 3, .tuple [], .str "book", .tuple (List.replicate 9 (.tuple []))]
theorem things_bad : ∀ d ∈ things, formErr d = some (-1) ∧ noL d = true := by
  intro d hd
  simp only [things, List.mem_cons, List.not_mem_nil, or_false] at hd
  rcases hd with rfl | rfl | rfl | rfl | rfl <;> exact ⟨rfl, rfl⟩
theorem dp_sts {K : PySem.W.Frag} {H : Hp} : ∀ {vs : List V} {b : Book}, Paired (StV K H) vs b → DpAll K H vs (b.map stD)
  | _, _, .nil => .nil
  | _, _, .cons r t => by
    obtain ⟨c, ps, rfl, h1, h2⟩ := r
    exact .cons (.tup h1.sq (dp_mvs h2)) (dp_sts t)
theorem DpAll.set {K : PySem.W.Frag} {H : Hp} {v : V} {d : PyData} (h : Dp K H v d) : ∀ {vs : List V} {ds : List PyData} (i : Nat), DpAll K H vs ds → DpAll K H (vs.set i v) (ds.set i d)
  | _, _, _, .nil => .nil
  | _, _, 0, .cons _ t => .cons h t
  | _, _, i + 1, .cons r t => .cons r (DpAll.set h i t)
theorem noLs_iff : ∀ {ds : List PyData}, noLs ds = true ↔ ∀ d ∈ ds, noL d = true
  | [] => by simp [noLs]
  | d :: r => by simp [noLs, noLs_iff (ds := r)]
theorem noL_st (s : State) : noL (stD s) = true := by
  show noLs (s.map mvD) = true
  rw [noLs_iff]
  intro d hd
  obtain ⟨p, _, rfl⟩ := List.mem_map.mp hd
  rfl
theorem mem_set_or {α : Type} {l : List α} {i : Nat} {x y : α} (h : y ∈ l.set i x) : y ∈ l ∨ y = x := List.mem_or_eq_of_mem_set h
theorem form_bad {b : Book} (fb : FormB b) {k : Nat} (hk : k < b.length) {d : PyData} (hd : stateD b.length d = false) : formErr (.tuple (((b.map stD).set (b.length - 1) .none).set k d)) = some (k : Int) := by
  have hl : (((b.map stD).set (b.length - 1) .none).set k d).length = b.length := by simp
  show (if 1 ≤ (((b.map stD).set (b.length - 1) PyData.none).set k d).length ∧ _ ≤ 8 then firstBad _ _ 0 else some (-1)) = _
  rw [if_pos ⟨by rw [hl]; exact fb.one, by rw [hl]; exact fb.eight⟩, hl, first_at _ 0 k d (List.getElem?_set_self (by simpa using hk)) hd fun j e hj he => ?_]
  · simp
  · rw [List.getElem?_set_ne (by omega), List.getElem?_set_ne (by omega), List.getElem?_map, mvs_lt (by omega)] at he
    cases he
    exact state_ok (fb.ok (by omega))
/-- one more state behind a book -/
theorem mvs_app {b : Book} {s : Nat} {x : State} (h : s < b.length) : mvs (b ++ [x]) s = mvs b s := by
  refine mvs_of ?_
  rw [List.getElem?_append_left h]
  exact mvs_lt h
theorem rch_app {b : Book} {x : State} (fb : FormB b) {s : Nat} (h : Rch b s) : Rch (b ++ [x]) s := by
  induction h with
  | zero => exact .zero
  | @step s p _ hp ih =>
    have hs : s < b.length := by
      by_cases h : s < b.length
      · exact h
      · rw [mvs_out (by omega)] at hp
        cases hp
    exact .step ih (by rw [mvs_app hs]; exact hp)
theorem rch_old {b : Book} {x : State} (fb : FormB b) {s : Nat} (h : Rch (b ++ [x]) s) : s < b.length := by
  induction h with
  | zero => exact fb.one
  | step _ hp ih =>
    rw [mvs_app ih] at hp
    exact fb.to hp
theorem form_app {b : Book} {x : State} (fb : FormB b) (h8 : b.length < 8) (hx : StOk (b.length + 1) x) : FormB (b ++ [x]) := by
  refine ⟨by simp, by simp; omega, fun s hs => ?_⟩
  rw [List.length_append]
  rcases List.mem_append.mp hs with hs | hs
  · have := fb.st s hs
    exact ⟨this.few, this.rise, this.msg, fun p hp => by have := this.to p hp; show p.2 < b.length + 1; omega⟩
  · rw [List.mem_singleton.mp hs]
    exact hx
theorem stray_app {b : Book} {x : State} (ok : OkB b) : StrayAt (b ++ [x]) b.length := by
  refine ⟨by simp, fun h => ?_, fun t ht => rch_app ok.toFormB (ok.reach t ht)⟩
  have := rch_old ok.toFormB h
  omega
theorem bookD_app (b : Book) (x : State) : bookD (b ++ [x]) = .tuple (b.map stD ++ [stD x]) := by
  unfold bookD
  rw [List.map_append]
  rfl
theorem form_two {b : Book} (fb : FormB b) (h6 : b.length ≤ 6) : formErr (.tuple (b.map stD ++ [.tuple [], .none])) = some ((b.length + 1 : Nat) : Int) := by
  have hl : (b.map stD ++ [PyData.tuple [], PyData.none]).length = b.length + 2 := by simp
  show (if 1 ≤ (b.map stD ++ [PyData.tuple [], PyData.none]).length ∧ _ ≤ 8 then firstBad _ _ 0 else some (-1)) = _
  rw [if_pos ⟨by rw [hl]; omega, by rw [hl]; omega⟩, hl, first_at _ 0 (b.length + 1) .none ?_ rfl fun j e hj he => ?_]
  · simp
  · rw [List.getElem?_append_right (by simp)]
    simp
  · by_cases hjb : j < b.length
    · rw [List.getElem?_append_left (by simpa using hjb), List.getElem?_map, mvs_lt hjb] at he
      cases he
      have := fb.ok hjb
      exact state_ok ⟨this.few, this.rise, this.msg, fun p hp => by have := this.to p hp; omega⟩
    · have : j = b.length := by omega
      subst this
      rw [List.getElem?_append_right (by simp)] at he
      simp at he
      rw [← he]
      rfl
def sp_law_win_no_books (K : PySem.W.Frag) (CB CS : Addr) : Sp := fun vs H Q _ => ∃ (p l : Addr) (v : V) (b : Book), vs = [.ref p, v] ∧ PoolAt H p l ∧ BkV K H v b ∧ OkB b ∧ ∀ (t : Addr) (xs : List V) (H' : Hp), H' t = some (.lst xs) → (∀ x ∈ xs, Entry K CB CS H' x) → PoolAt H' p l → Ext [p, l] H H' → Q (.ref t) H'
def spN_law_win_no_books (K : PySem.W.Frag) (CB CS : Addr) : Sp := fun vs H Q _ => ∃ (p l : Addr) (v : V) (b : Book), vs = [.ref p, v] ∧ PoolAt H p l ∧ BkV K H v b ∧ OkB b ∧ ∀ (t : Addr) (xs : List V) (H' : Hp), H' t = some (.lst xs) → (∀ x ∈ xs, Entry K CB CS H' x) → xs.length ≤ 8 → PoolAt H' p l → Ext [p, l] H H' → Q (.ref t) H'
theorem okN_law_win_no_books (T : Tx K mg) : FnOk P w K mg base CX0 3 T.law_win_no_books.f T.law_win_no_books.fd ["pool", "book"] (spN_law_win_no_books K T.x_BadBook.C T.x_Stray.C) := by
  refine T.law_win_no_books.F.ok sc_law_win_no_books (fun vs H Q E h => ?_) (fun cdv A outer s H vs Q E hr h => ?_)
  · obtain ⟨p, l, v, b, rfl, _⟩ := h; rfl
  · obtain ⟨p, l, v, b, rfl, hP, hb, ok, q⟩ := h
    obtain ⟨a, ls, rfl, ha, hls⟩ := id hb
    have llen := Paired.len hls
    have fb := ok.toFormB
    have h8 := fb.eight
    have h1 := fb.one
    refine ⟨_, (pss_cons (ps_par (i := 2) (j := 3) (by rfl) sc_law_win_no_books.nd rfl rfl (by decide) rfl rfl (pa_cons (pe_call (ok_law_draw T) (hr.mono (by decide)) (by rfl) T.law_draw.g T.law_draw.F.kp T.law_draw.b .nil pass0 (pa_cons (pv 0) (pa_cons (pe_callB call_len_seq (by rfl) T.n_len PySem.boot_len (pa_cons (pv 1) pa_nil)) pa_nil))) (pa_cons (pe_callB call_len_seq (by rfl) T.n_len PySem.boot_len (pa_cons (pv 1) pa_nil)) pa_nil)) (by rfl))
      (pss_cons (ps_set (i := 4) sc_law_win_no_books.nd rfl (.inl rfl) (pd_lst (K := K) (pds_cons pd_none (pds_cons pd_int (pds_cons (pd_tup (K := K) (pds_cons (pd_tup (K := K) (pds_cons pd_int pds_nil)) pds_nil)) (pds_cons (pd_tup (K := K) (pds_cons (pd_tup (K := K) (pds_cons pd_int (pds_cons pd_int (pds_cons pd_int pds_nil)))) pds_nil)) (pds_cons (pd_tup (K := K) (pds_cons pd_int (pds_cons pd_int pds_nil))) (pds_cons (pd_tup (K := K) (pds_cons (pd_tup (K := K) (pds_cons pd_int (pds_cons pd_int pds_nil))) pds_nil)) (pds_cons (pd_tup (K := K) (pds_cons (pd_tup (K := K) (pds_cons pd_neg (pds_cons pd_int pds_nil))) pds_nil)) (pds_cons (pd_tup (K := K) (pds_cons (pd_tup (K := K) (pds_cons pd_bool (pds_cons pd_int pds_nil))) pds_nil)) (pds_cons (pd_tup (K := K) (pds_cons (pd_tup (K := K) (pds_cons pd_int (pds_cons (pd_var (i := 3) (pv 3)) pds_nil))) pds_nil)) (pds_cons (pd_tup (K := K) (pds_cons (pd_tup (K := K) (pds_cons pd_int (pds_cons pd_neg pds_nil))) pds_nil)) pds_nil))))))))))))
      (pss_cons (ps_set (i := 4) sc_law_win_no_books.nd rfl (.inl rfl) (pe_op op_cat (pv 4) (pd_lst (K := K) (pds_cons (pd_tup (K := K) (pds_cons (pd_tup (K := K) (pds_cons pd_int (pds_cons pd_bool pds_nil))) pds_nil)) (pds_cons (pd_tup (K := K) (pds_cons (pd_tup (K := K) (pds_cons pd_int (pds_cons pd_int pds_nil))) (pds_cons (pd_tup (K := K) (pds_cons pd_int (pds_cons pd_int pds_nil))) pds_nil))) (pds_cons (pd_tup (K := K) (pds_cons (pd_tup (K := K) (pds_cons pd_int (pds_cons pd_int pds_nil))) (pds_cons (pd_tup (K := K) (pds_cons pd_int (pds_cons pd_int pds_nil))) pds_nil))) (pds_cons (peW (t' := tDat K (lenO 9 dat1)) (pe_callTy call_tupZ (by rfl) T.n_tuple (by decide +kernel) (pa_cons (pe_lc (own := [("message", 7)]) rfl sc_law_win_no_books.nd (pi_range1 (by rfl) T.n_range (pa_cons pe_int pa_nil)) (blkOk_by (own := [("message", 7)]) (N := ["pool", "book", "at", "states", "bad", "found", "some", "message", "thing"]) (sc := defScope s_law_win_no_books) (by decide +kernel)) (fun _ _ _ _ _ => (pg_name (i := 7) sc_law_win_no_books.nd rfl (.inl rfl))) (fun _ _ _ _ _ => pts_nil) (fun _ _ _ _ _ => (pe_tup (pa_cons (pv 7) (pa_cons pe_int pa_nil))))) pa_nil)) ?dat1) (pds_cons (pd_tup (K := K) (pds_cons pd_none pds_nil)) pds_nil))))))))
      (pss_cons (ps_setLc (i := 5) (own := [("thing", 8)]) rfl sc_law_win_no_books.nd rfl rfl (sw_true rfl rfl rfl (by decide +kernel)) (pi_list (pd_lst (K := K) (pds_cons pd_none (pds_cons pd_int (pds_cons (pd_tup (K := K) pds_nil) (pds_cons pd_str (pds_cons (pd_rep (pds_cons (pd_tup (K := K) pds_nil) pds_nil)) pds_nil))))))) (blkOk_by (own := [("thing", 8)]) (N := ["pool", "book", "at", "states", "bad", "found", "some", "message", "thing"]) (sc := defScope s_law_win_no_books) (by decide +kernel)) (fun _ _ _ _ _ => (pg_name (i := 8) sc_law_win_no_books.nd rfl (.inl rfl))) (fun _ _ _ _ _ => pts_nil) (fun _ _ _ _ _ => (pe_tup (pa_cons (pv 8) (pa_cons pe_str pa_nil)))))
      (pss_cons (ps_set (i := 6) sc_law_win_no_books.nd rfl (.inl rfl) (pe_callTy call_list_of (by rfl) T.n_list (by decide +kernel) (pa_cons (pv 1) pa_nil)))
      (pss_cons (ps_asg pe_non (pg_sub (pv 6) (pe_un un_neg pe_int) set_list))
      (pss_cons (ps_asg (pe_call (ok_law_pick T) (hr.mono (by decide)) (by rfl) T.law_pick.g T.law_pick.F.kp T.law_pick.b .nil pass0 (pa_cons (pv 0) (pa_cons (pv 4) pa_nil))) (pg_sub (pv 6) (pv 2) set_list))
      (pss_cons (ps_expr (pe_bm PySem.F.plainAttrs_list PySem.F.slot_list_append PySem.F.type_list_append mt_append (pv 5) (pa_cons (pe_tup (pa_cons (pe_callTy call_tupZ (by rfl) T.n_tuple (by decide +kernel) (pa_cons (pv 6) pa_nil)) (pa_cons (pe_op op_add_str pe_str (pe_callB SkE.call_repr_int (by rfl) T.n_repr (by decide +kernel) (pa_cons (pv 2) pa_nil))) pa_nil))) pa_nil)))
      (C8.pss_cut (ps_if (pt_cmpR op_lt (pv 3) pe_int (nomark _))
        (pss_cons (ps_expr (pe_bm PySem.F.plainAttrs_list PySem.F.slot_list_append PySem.F.type_list_append mt_append (pv 5) (pa_cons (pe_tup (pa_cons (pe_op op_catA (pv 1) (pd_tup (K := K) (pds_cons (pd_tup (K := K) (pds_cons (pd_tup (K := K) (pds_cons pd_int (pds_cons (pd_var (i := 3) (pv 3)) pds_nil))) pds_nil)) pds_nil))) (pa_cons (pe_op op_add_str pe_str (pe_callB SkE.call_repr_int (by rfl) T.n_repr (by decide +kernel) (pa_cons (pv 3) pa_nil))) pa_nil))) pa_nil)))
        (pss_one (ps_expr (pe_bm PySem.F.plainAttrs_list PySem.F.slot_list_append PySem.F.type_list_append mt_append (pv 5) (pa_cons (pe_tup (pa_cons (pe_op op_catA (pv 1) (pe_slice sl_tupA (pd_tup (K := K) (pds_cons (pd_tup (K := K) pds_nil) (pds_cons pd_none pds_nil))) po_none (po_some (pe_callB (call_min2 rfl) (by rfl) T.n_min (by decide +kernel) (pa_cons pe_int (pa_cons (pe_op op_sub pe_int (pv 3)) pa_nil)))))) (pa_cons (pe_mid (pe_ifExp (pt_cmpR op_lt (pv 3) pe_int (nomark _)) (pe_op op_add_str pe_str (pe_callB SkE.call_repr_int (by rfl) T.n_repr (by decide +kernel) (pa_cons (pe_op op_add (pv 3) pe_int) pa_nil))) pe_str)) pa_nil))) pa_nil)))))
        pss_nil)
      (pss_one (ps_ret (pv 5)))))))))))), ?_⟩
    case dat1 =>
      rintro σ Hs Qs ⟨dd, ed, qd⟩
      unfold lenO at ed
      split at ed
      · rename_i h9
        cases ed
        obtain ⟨y0, y1, y2, y3, y4, y5, y6, y7, y8, rfl⟩ : ∃ y0 y1 y2 y3 y4 y5 y6 y7 y8, σ = [y0, y1, y2, y3, y4, y5, y6, y7, y8] := by
          match σ, h9 with
          | [y0, y1, y2, y3, y4, y5, y6, y7, y8], _ => exact ⟨y0, y1, y2, y3, y4, y5, y6, y7, y8, rfl⟩
        refine ⟨6, rfl, by decide, by decide, fun D hD => ?_⟩
        refine lc_range (lo := 0) (n := 6) (fun i H' => ∃ xs : List V, H' D = some (.lst xs) ∧ Paired (fun (v : V) (m : Nat) => ∃ t, v = .ref t ∧ t ≠ D ∧ H' t = some (.tup [nV m, .int 0])) xs ((List.range 6).take i) ∧ Ext [] Hs H') ⟨[], upd_same, by simp; exact .nil, .new hD⟩ ?_ ?_
        · rintro i H' hi ⟨xs, hX, hp, e⟩
          simp only [Int.zero_add]
          refine ⟨rfl, yes ?_⟩
          refine ⟨_, rfl, (by show 2 ≤ sizeLine; decide), fun t ht => ?_⟩
          have e2 : Ext [] H' (upd H' t (.tup [.int i, .int 0])) := .new ht
          have tD : t ≠ D := fun z => by rw [z, hX] at ht; cases ht
          have hX2 := e2.at hX (by simp)
          refine ⟨_, hX2, by rw [Paired.len hp, List.length_take, List.length_range]; exact small1000 (by omega), xs ++ [.ref t], upd_same, ?_, (e.trans e2).put hD⟩
          rw [List.take_add_one, List.getElem?_range hi]
          refine Paired.snoc ⟨t, rfl, tD, by rw [upd_ne tD]; exact upd_same⟩ (Paired.imp hp fun v m z => ?_)
          obtain ⟨g, rfl, h1, h2⟩ := z
          exact ⟨g, rfl, h1, by rw [upd_ne h1]; exact e2.at h2 (by simp)⟩
        · rintro H' ⟨xs, hX, hp, e⟩
          have hp : Paired (fun (v : V) (m : Nat) => ∃ t, v = .ref t ∧ H' t = some (.tup [nV m, .int 0])) xs (List.range 6) := Paired.imp hp fun v m z => by
            obtain ⟨g, rfl, _, h2⟩ := z
            exact ⟨g, rfl, h2⟩
          refine ⟨D, _, rfl, .of hX, fun t H2 ht hH => ?_⟩
          obtain ⟨o, _, rfl⟩ := hH
          have e3 : Ext [] H' (upd H' t (.frz o (.tup xs))) := .new ht
          exact qd _ _ (e.trans e3) (.tup (.inl (.inr ⟨o, upd_same⟩)) (DpAll.ext0 e3 (dp_six hp)))
      · cases ed
    refine ⟨_, rfl, _, rfl, a, _, rfl, .inr ha, p, l, _, rfl, hP, by omega, by omega, fun r H1 r0 r1 P1 e1 => ?_⟩
    obtain ⟨k, rfl⟩ : ∃ k : Nat, r = (k : Int) := ⟨r.toNat, by omega⟩
    have hk : k < b.length := by omega
    have ha1 := e1.tup hP.lsts ha
    refine ⟨_, rfl, a, _, rfl, .inr ha1, _, _, rfl, ?_⟩
    refine ⟨_, rfl, (by show 10 ≤ 1000; decide), fun bp vs1 H2 fbp hbp e2 hd1 => ?_⟩
    have hd1 : DpAll K H2 vs1 (badA b.length) := by rw [← llen]; exact hd1
    refine ⟨_, rfl, badB, rfl, (by show 5 ≤ 1000; decide), fun bq vs2 H3 fbq hbq e3 hd2 => ?_⟩
    have l1 := dpAll_len hd1
    have l2 := dpAll_len hd2
    have l1 : vs1.length = 10 := l1
    have l2 : vs2.length = 5 := l2
    refine ⟨bp, bq, _, _, rfl, rfl, e3.at hbp (by simp), hbq, by rw [l1, l2]; exact Nat.le_of_lt (small1000 (by omega)), fun bc hbc => ?_⟩
    have hds : DpAll K (upd H3 bc (.lst (vs1 ++ vs2))) (vs1 ++ vs2) (badA b.length ++ badB) := DpAll.ext0 (.new hbc) (DpAll.append (DpAll.ext0 e3 hd1) hd2)
    have e4 : Ext [] H1 (upd H3 bc (.lst (vs1 ++ vs2))) := (e2.trans e3).put2 hbc
    have hbc4 : upd H3 bc (.lst (vs1 ++ vs2)) bc = some (.lst (vs1 ++ vs2)) := upd_same
    have fbc : H1 bc = none := (e2.trans e3).free hbc
    clear hd1 hd2 hbq hbp fbq fbp e2 e3
    generalize upd H3 bc (.lst (vs1 ++ vs2)) = H4 at *
    -- found
    refine ⟨things, rfl, (by show 5 ≤ 1000; decide), fun tq vs3 H5 ftq htq e5 hd3 => ⟨tq, rfl, ⟨_, .of htq⟩, fun D hD => ?_⟩⟩
    have l3 := dpAll_len hd3
    have l3 : vs3.length = 5 := l3
    have e5' := e4.trans e5
    have fD1 : H1 D = none := e5'.free hD
    refine lc_list (K := K) (a := tq) (xs := vs3) (fun j H' => ∃ xs : List V, H' D = some (.lst xs) ∧ xs.length = j ∧ (∀ x ∈ xs, Entry K T.x_BadBook.C T.x_Stray.C H' x) ∧ Ext [] H5 H') ⟨[], upd_same, rfl, (fun x hx => nomatch hx), .new hD⟩ (fun j H' _ ⟨_, _, _, _, e⟩ => .of (e.at htq (by simp))) ?_ ?_
    · rintro j v H' hv ⟨xs, hX, hxl, hxe, e6⟩
      have hj : j < 5 := by
        have := (List.getElem?_eq_some_iff.mp hv).1
        omega
      obtain ⟨dj, hdj, hDj⟩ := dpAll_get' hd3 hv
      obtain ⟨hbad, hnl⟩ := things_bad dj (List.mem_of_getElem? hdj)
      refine ⟨rfl, yes ?_⟩
      refine ⟨_, rfl, (by show 2 ≤ sizeLine; decide), fun t ht => ?_⟩
      have e7 : Ext [] H' (upd H' t (.tup [v, .str "BadBook -1"])) := .new ht
      have hX7 := e7.at hX (by simp)
      refine ⟨_, hX7, by rw [hxl]; exact small1000 (by omega), xs ++ [.ref t], upd_same, by rw [List.length_append, hxl]; rfl, fun x hx => ?_, (e6.trans e7).put hD⟩
      have wD : Ext [D] (upd H' t (.tup [v, .str "BadBook -1"])) (upd (upd H' t (.tup [v, .str "BadBook -1"])) D (.lst (xs ++ [.ref t]))) := .wr (by simp)
      have lD := one_lst hX7
      rcases List.mem_append.mp hx with hx | hx
      · exact ((hxe x hx).ext0 e7).ext wD lD
      · rw [List.mem_singleton.mp hx]
        refine Entry.ext ⟨t, v, dj, _, -1, "BadBook ", rfl, .of ?_, Dp.ext0 (e6.trans e7) hDj, hnl, .form hbad, .inl ⟨rfl, rfl⟩, by omega, by omega⟩ wD lD
        rw [upd_same]
        have : (PySem.Str.ofString "BadBook " ++ PySem.Str.ofString (toString (-1 : Int))) = PySem.Str.ofString "BadBook -1" := by decide +kernel
        rw [this]
    · rintro H6 ⟨xs0, hX, hxl, hxe, e6⟩
      rw [l3] at hxl
      have e6' := e5'.trans e6
      have ha6 := e6'.tup Lsts.nil ha1
      have P6 := P1.ext0 e6'
      have hbc6 := (e5.trans e6).at hbc4 (by simp)
      have hds6 := DpAll.ext0 (e5.trans e6) hds
      -- some = list(book)
      refine ⟨_, rfl, a, _, rfl, .inr ha6, fun so hso => ?_⟩
      have fso : H1 so = none := e6'.free hso
      have e7 : Ext [] H6 (upd H6 so (.lst ls)) := .new hso
      -- some[-1] = None
      have hix : ixN ls.length (-1) = some (ls.length - 1) := by
        unfold ixN
        rw [if_neg (by omega), if_pos (by omega)]
        congr 1
        omega
      refine ⟨_, rfl, 1, rfl, so, _, _, ls.length - 1, rfl, rfl, upd_same, hix, ?_⟩
      rw [upd_upd]
      have e7 : Ext [] H6 (upd H6 so (.lst (ls.set (ls.length - 1) .non))) := .new hso
      have hs7 : upd H6 so (.lst (ls.set (ls.length - 1) .non)) so = some (.lst (ls.set (ls.length - 1) .non)) := upd_same
      show _
      generalize upd H6 so (.lst (ls.set (ls.length - 1) .non)) = H7 at *
      obtain ⟨sop, sol⟩ := P1.off fso
      obtain ⟨Dp', Dl⟩ := P1.off fD1
      obtain ⟨bcp, bcl⟩ := P1.off fbc
      have P7 := P6.ext0 e7
      have hX7 := e7.at hX (by simp)
      have sD : so ≠ D := fun z => by rw [z, hX] at hso; cases hso
      -- some[at] = pick
      refine ⟨_, rfl, _, rfl, p, l, bc, _, rfl, P7, .of (e7.at hbc6 (by simp)), bcp, bcl, by rw [List.length_append]; omega, by rw [List.length_append]; omega, fun i v H8 hi P8 e8 => ?_⟩
      obtain ⟨d, hd, hDv⟩ := dpAll_get' (DpAll.ext0 e7 hds6) hi
      have hdm := List.mem_of_getElem? hd
      have hDv8 := Dp.extL e8 P7.lsts hDv (bad_noL _ d hdm)
      refine ⟨_, rfl, _, rfl, so, _, _, k, rfl, rfl, e8 _ _ (off2 sop sol) hs7, ixNat (by rw [List.length_set]; omega), ?_⟩
      have hX8 := e8 _ _ (off2 Dp' Dl) hX7
      have o8 : Ext [p, l] H H8 := ((e1.trans e6'.weak).trans e7.weak).trans e8
      have w9 : Ext [so] H8 (upd H8 so (.lst ((ls.set (ls.length - 1) .non).set k v))) := .wr (by simp)
      have l9 : Lsts [so] H8 := one_lst (e8 _ _ (off2 sop sol) hs7)
      have hs9 : upd H8 so (.lst ((ls.set (ls.length - 1) .non).set k v)) so = some (.lst ((ls.set (ls.length - 1) .non).set k v)) := upd_same
      have hX9 := w9 D _ (by simp [sD.symm]) hX8
      have P9 := P8.put (o := .lst ((ls.set (ls.length - 1) .non).set k v)) sop sol
      have o9 : Ext [p, l] H (upd H8 so (.lst ((ls.set (ls.length - 1) .non).set k v))) := o8.put' (e1.free2 fso (off2 sop sol))
      have ent9 : ∀ x ∈ xs0, Entry K T.x_BadBook.C T.x_Stray.C (upd H8 so (.lst ((ls.set (ls.length - 1) .non).set k v))) x := fun x hx => (((hxe x hx).ext0 e7).ext e8 P7.lsts).ext w9 l9
      have hb9 : BkV K (upd H8 so (.lst ((ls.set (ls.length - 1) .non).set k v))) (.ref a) b := ((((hb.ext e1 hP.lsts).ext0 e6').ext0 e7).ext e8 P7.lsts).ext w9 l9
      have ha9 := w9.tup l9 (e8.tup P7.lsts (e7.tup Lsts.nil ha6))
      have hls9 : Paired (StV K (upd H8 so (.lst ((ls.set (ls.length - 1) .non).set k v)))) ls b := Paired.imp hls fun _ _ z => ((((z.ext e1 hP.lsts).ext0 e6').ext0 e7).ext e8 P7.lsts).ext w9 l9
      have dv9 := Dp.extL w9 l9 hDv8 (bad_noL _ d hdm)
      show _
      generalize upd H8 so (.lst ((ls.set (ls.length - 1) .non).set k v)) = H9 at *
      clear e8 w9 l9 hX8 hs7 hX7 P7 P8 hDv8 hDv e7 hds6 hbc6 P6 ha6 e6 hX hso hxe
      have fD := e1.free2 fD1 (off2 Dp' Dl)
      have dls := dp_sts hls9
      have ksm : ((k : Int)).natAbs.log2 < 1920 := Nat.lt_of_le_of_lt (Nat.log2_le_self _) (by omega)
      have nsm : ((ls.length : Int)).natAbs.log2 < 1920 := Nat.lt_of_le_of_lt (Nat.log2_le_self _) (by omega)
      have ksl := str_small (e := (k : Int)) ⟨by omega, by omega⟩
      have nsl := str_small (e := (ls.length : Int)) ⟨by omega, by omega⟩
      have lb : (Str.ofString "BadBook ").length = 8 := by decide +kernel
      have lst : (Str.ofString "Stray ").length = 6 := by decide +kernel
      -- the first further pair
      refine ⟨_, rfl, .inl ⟨rfl, _, .of hX9⟩, _, rfl, so, _, rfl, .of hs9, fun tt Ha htt hHa => ?_⟩
      obtain ⟨oo, _, rfl⟩ := hHa
      refine ⟨_, rfl, _, rfl, ksm, _, _, rfl, rfl, Nat.le_of_lt (small1000 (by omega)), (by show 2 ≤ sizeLine; decide), fun te hte => ?_⟩
      have x1 : Ext [] H9 (upd (upd H9 tt (.frz oo (.tup ((ls.set (ls.length - 1) .non).set k v)))) te (.tup [.ref tt, .str (Str.ofString "BadBook " ++ Str.ofString (toString (k : Int)))])) := (Ext.new (L := []) htt).put2 hte
      have tte : tt ≠ te := fun z => by rw [← z, upd_same] at hte; cases hte
      have hX10 := x1.at hX9 (by simp)
      have wD : Ext [D] (upd (upd H9 tt (.frz oo (.tup ((ls.set (ls.length - 1) .non).set k v)))) te (.tup [.ref tt, .str (Str.ofString "BadBook " ++ Str.ofString (toString (k : Int)))])) (upd (upd (upd H9 tt (.frz oo (.tup ((ls.set (ls.length - 1) .non).set k v)))) te (.tup [.ref tt, .str (Str.ofString "BadBook " ++ Str.ofString (toString (k : Int)))])) D (.lst (xs0 ++ [.ref te]))) := .wr (by simp)
      have entA : ∀ x ∈ xs0 ++ [.ref te], Entry K T.x_BadBook.C T.x_Stray.C (upd (upd (upd H9 tt (.frz oo (.tup ((ls.set (ls.length - 1) .non).set k v)))) te (.tup [.ref tt, .str (Str.ofString "BadBook " ++ Str.ofString (toString (k : Int)))])) D (.lst (xs0 ++ [.ref te]))) x := fun x hx => by
        refine Entry.ext (L := [D]) ?_ wD (one_lst hX10)
        rcases List.mem_append.mp hx with hx | hx
        · exact (ent9 x hx).ext0 x1
        · rw [List.mem_singleton.mp hx]
          refine ⟨te, .ref tt, .tuple (((b.map stD).set (b.length - 1) .none).set k d), _, k, "BadBook ", rfl, .of upd_same, .tup (.inl (.inr ⟨oo, by rw [upd_ne tte, upd_same]⟩)) ?_, ?_, .form (form_bad fb hk (bad_all _ d hdm)), .inl ⟨rfl, rfl⟩, by omega, by omega⟩
          · have := DpAll.set dv9 k (DpAll.set (.non : Dp K H9 .non .none) (ls.length - 1) dls)
            have eqd : (b.map stD).set (b.length - 1) .none = (b.map stD).set (ls.length - 1) .none := by rw [llen]
            rw [eqd]
            exact DpAll.ext0 x1 this
          · show noLs _ = true
            rw [noLs_iff]
            intro y hy
            rcases mem_set_or hy with hy | rfl
            · rcases mem_set_or hy with hy | rfl
              · obtain ⟨s0, _, rfl⟩ := List.mem_map.mp hy
                exact noL_st s0
              · rfl
            · exact bad_noL _ _ hdm
      refine ⟨D, _, _, rfl, rfl, hX10, by rw [hxl]; exact small1000 (by omega), ?_⟩
      have hXb : upd (upd (upd H9 tt (.frz oo (.tup ((ls.set (ls.length - 1) .non).set k v)))) te (.tup [.ref tt, .str (Str.ofString "BadBook " ++ Str.ofString (toString (k : Int)))])) D (.lst (xs0 ++ [.ref te])) D = some (.lst (xs0 ++ [.ref te])) := upd_same
      have Pb : PoolAt (upd (upd (upd H9 tt (.frz oo (.tup ((ls.set (ls.length - 1) .non).set k v)))) te (.tup [.ref tt, .str (Str.ofString "BadBook " ++ Str.ofString (toString (k : Int)))])) D (.lst (xs0 ++ [.ref te]))) p l := (P9.ext0 x1).put Dp' Dl
      have ob : Ext [p, l] H (upd (upd (upd H9 tt (.frz oo (.tup ((ls.set (ls.length - 1) .non).set k v)))) te (.tup [.ref tt, .str (Str.ofString "BadBook " ++ Str.ofString (toString (k : Int)))])) D (.lst (xs0 ++ [.ref te]))) := (o9.trans x1.weak).put' fD
      have hab := wD.tup (one_lst hX10) (x1.tup Lsts.nil ha9)
      have hlsb : Paired (StV K (upd (upd (upd H9 tt (.frz oo (.tup ((ls.set (ls.length - 1) .non).set k v)))) te (.tup [.ref tt, .str (Str.ofString "BadBook " ++ Str.ofString (toString (k : Int)))])) D (.lst (xs0 ++ [.ref te])))) ls b := Paired.imp hls9 fun _ _ z => (z.ext0 x1).ext wD (one_lst hX10)
      show _
      generalize upd (upd (upd H9 tt (.frz oo (.tup ((ls.set (ls.length - 1) .non).set k v)))) te (.tup [.ref tt, .str (Str.ofString "BadBook " ++ Str.ofString (toString (k : Int)))])) D (.lst (xs0 ++ [.ref te])) = Hb at *
      refine ⟨fun σ H' => ∃ xs : List V, σ[5]? = some (some (.ref D)) ∧ H' D = some (.lst xs) ∧ (∀ x ∈ xs, Entry K T.x_BadBook.C T.x_Stray.C H' x) ∧ PoolAt H' p l ∧ Ext [p, l] H H' ∧ xs.length ≤ 8, ?_, ?_⟩
      · refine ⟨_, rfl, _, _, rfl, rfl, _, rfl, ite2 (fun z => ?_) (fun z => ⟨_, rfl, hXb, entA, Pb, ob, by rw [List.length_append, hxl]; exact (by decide : 6 ≤ 8)⟩)⟩
        have hn8 : b.length < 8 := by
          have := of_decide_eq_true z
          omega
        have lXb : (xs0 ++ [V.ref te]).length = 6 := by rw [List.length_append, hxl]; rfl
        generalize hxsb : xs0 ++ [V.ref te] = xsb at *
        -- a stray
        refine ⟨_, rfl, .inl ⟨rfl, _, .of hXb⟩, _, rfl, _, rfl, fun w1 Hc ec hw1 => ?_⟩
        obtain ⟨c1, ws1, rfl, hc1, hws1⟩ : ∃ c ws, w1 = .ref c ∧ SqT K Hc c ws ∧ DpAll K Hc ws [.tuple [.tuple [.int 0, .int (ls.length : Int)]]] := by
          cases hw1 with
          | tup h1 h2 => exact ⟨_, _, rfl, h1, h2⟩
        have lw1 := dpAll_len hws1
        have lw1 : ws1.length = 1 := lw1
        have hac := ec.tup Lsts.nil hab
        have lsne : ls ≠ [] := fun h0 => by
          rw [h0] at llen
          have : 0 = b.length := llen
          omega
        have ws1ne : ws1 ≠ [] := fun h0 => by
          rw [h0] at lw1
          cases lw1
        refine ⟨a, c1, ls, ws1, rfl, rfl, hac, hc1, Nat.le_of_lt (small1000 (by omega)), fun h0 => absurd h0 lsne, fun _ h0 => absurd h0 ws1ne, fun _ _ t1 ht1 => ?_⟩
        refine ⟨_, rfl, _, rfl, nsm, _, _, rfl, rfl, Nat.le_of_lt (small1000 (by omega)), (by show 2 ≤ sizeLine; decide), fun te1 hte1 => ?_⟩
        have x1c : Ext [] Hc (upd (upd Hc t1 (.tup (ls ++ ws1))) te1 (.tup [.ref t1, .str (Str.ofString "Stray " ++ Str.ofString (toString (ls.length : Int)))])) := (Ext.new (L := []) ht1).put2 hte1
        have tte1 : t1 ≠ te1 := fun z => by rw [← z, upd_same] at hte1; cases hte1
        have x1b := ec.trans x1c
        have hXc := x1b.at hXb (by simp)
        have hst1 : upd (upd Hc t1 (.tup (ls ++ ws1))) te1 (.tup [.ref t1, .str (Str.ofString "Stray " ++ Str.ofString (toString (ls.length : Int)))]) t1 = some (.tup (ls ++ ws1)) := by rw [upd_ne tte1, upd_same]
        have hste : upd (upd Hc t1 (.tup (ls ++ ws1))) te1 (.tup [.ref t1, .str (Str.ofString "Stray " ++ Str.ofString (toString (ls.length : Int)))]) te1 = some (.tup [.ref t1, .str (Str.ofString "Stray " ++ Str.ofString (toString (ls.length : Int)))]) := upd_same
        have dlsb := dp_sts hlsb
        refine ⟨D, _, _, rfl, rfl, hXc, by rw [lXb]; exact small1000 (by omega), ?_⟩
        have hws1c := DpAll.ext0 x1c hws1
        show _
        generalize upd (upd Hc t1 (.tup (ls ++ ws1))) te1 (.tup [.ref t1, .str (Str.ofString "Stray " ++ Str.ofString (toString (ls.length : Int)))]) = Hd at *
        have w2 : Ext [D] Hd (upd Hd D (.lst (xsb ++ [.ref te1]))) := .wr (by simp)
        have l2d := one_lst hXc
        have st1 : StOk (b.length + 1) [(0, b.length)] := ⟨by simp, by simp, by simp, by simp⟩
        have entB : ∀ x ∈ xsb ++ [.ref te1], Entry K T.x_BadBook.C T.x_Stray.C (upd Hd D (.lst (xsb ++ [.ref te1]))) x := fun x hx => by
          refine Entry.ext (L := [D]) ?_ w2 l2d
          rcases List.mem_append.mp hx with hx | hx
          · exact (entA x hx).ext0 x1b
          · rw [List.mem_singleton.mp hx]
            refine ⟨te1, .ref t1, bookD (b ++ [[(0, b.length)]]), _, (ls.length : Int), "Stray ", rfl, .of hste, ?_, ?_, ?_, .inr ⟨rfl, rfl⟩, by omega, by omega⟩
            · rw [bookD_app]
              have e1' : stD [(0, b.length)] = .tuple [.tuple [.int 0, .int (ls.length : Int)]] := by rw [llen]; rfl
              rw [e1']
              exact .tup (.of hst1) (DpAll.append (DpAll.ext0 x1b dlsb) hws1c)
            · rw [bookD_app]
              show noLs _ = true
              rw [noLs_iff]
              intro y hy
              rcases List.mem_append.mp hy with hy | hy
              · obtain ⟨s0, _, rfl⟩ := List.mem_map.mp hy
                exact noL_st s0
              · rw [List.mem_singleton.mp hy]
                exact noL_st _
            · rw [llen]
              exact .stray rfl (form_app fb hn8 st1) (stray_app ok)
        have hXe : upd Hd D (.lst (xsb ++ [.ref te1])) D = some (.lst (xsb ++ [.ref te1])) := upd_same
        have Pe : PoolAt (upd Hd D (.lst (xsb ++ [.ref te1]))) p l := (Pb.ext0 x1b).put Dp' Dl
        have oe : Ext [p, l] H (upd Hd D (.lst (xsb ++ [.ref te1]))) := (ob.trans x1b.weak).put' fD
        have hae := w2.tup l2d (x1b.tup Lsts.nil hab)
        have hlse : Paired (StV K (upd Hd D (.lst (xsb ++ [.ref te1])))) ls b := Paired.imp hlsb fun _ _ z => (z.ext0 x1b).ext w2 l2d
        have lXe : (xsb ++ [V.ref te1]).length = 7 := by rw [List.length_append, lXb]; rfl
        show _
        generalize upd Hd D (.lst (xsb ++ [.ref te1])) = He at *
        generalize xsb ++ [V.ref te1] = xse at *
        clear w2 l2d x1b x1c hXc hws1c hst1 hste dlsb hws1 hac entA hab hlsb Pb ob
        -- the other
        refine ⟨_, rfl, .inl ⟨rfl, _, .of hXe⟩, _, rfl, _, rfl, fun w2 Hf ef hw2 => ?_⟩
        obtain ⟨c2, ws2, rfl, hc2, hws2⟩ : ∃ c ws, w2 = .ref c ∧ SqT K Hf c ws ∧ DpAll K Hf ws [.tuple [], .none] := by
          cases hw2 with
          | tup h1 h2 => exact ⟨_, _, rfl, h1, h2⟩
        have lw2 : ws2.length = 2 := dpAll_len hws2
        refine ⟨_, rfl, _, _, rfl, rfl, _, _, rfl, _, rfl, ?_⟩
        have nsm1 : ((ls.length : Int) + 1).natAbs.log2 < 1920 := Nat.lt_of_le_of_lt (Nat.log2_le_self _) (by omega)
        have nsl1 := str_small (e := (ls.length : Int) + 1) ⟨by omega, by omega⟩
        have s7 : V.str (Str.ofString "Stray 7") = V.str (Str.ofString "Stray " ++ Str.ofString (toString (7 : Int))) := by
          congr 1
        by_cases h6 : b.length ≤ 6
        · rw [if_neg (by omega)]
          have refA : Ref T.x_BadBook.C T.x_Stray.C (.tuple (b.map stD ++ [.tuple [], .none])) T.x_BadBook.C ((ls.length : Int) + 1) := by
            have e9 : ((ls.length : Int) + 1) = ((b.length + 1 : Nat) : Int) := by omega
            rw [e9]
            exact .form (form_two fb h6)
          have ysne : ws2 ≠ [] := fun h0 => by rw [h0] at lw2; cases lw2
          refine ⟨c2, ws2, rfl, hc2, fun _ => ?_, fun h => absurd ⟨rfl, by rw [lw2]; rfl⟩ h⟩
          refine ⟨a, c2, ls, ws2, rfl, rfl, ef.tup Lsts.nil hae, hc2, Nat.le_of_lt (small1000 (by omega)), fun h0 => absurd h0 lsne, fun _ h0 => absurd h0 ysne, fun _ _ t2 ht2 => ?_⟩
          have xg : Ext [] He (upd Hf t2 (.tup (ls ++ ws2))) := ef.put2 ht2
          have ht2s : upd Hf t2 (.tup (ls ++ ws2)) t2 = some (.tup (ls ++ ws2)) := upd_same
          have hdat2 : DpAll K (upd Hf t2 (.tup (ls ++ ws2))) (ls ++ ws2) (b.map stD ++ [.tuple [], .none]) := DpAll.append (DpAll.ext0 xg (dp_sts hlse)) (DpAll.ext0 (.new ht2) hws2)
          refine ⟨fun v H' => H' = upd Hf t2 (.tup (ls ++ ws2)) ∧ v = .str (Str.ofString "BadBook " ++ Str.ofString (toString ((ls.length : Int) + 1))), ⟨_, rfl, _, _, rfl, rfl, _, rfl, ite2 (fun _ => ⟨_, rfl, _, _, rfl, rfl, _, rfl, nsm1, _, _, rfl, rfl, Nat.le_of_lt (small1000 (by omega)), rfl, rfl⟩) (fun z => absurd (decide_eq_true (by omega)) z)⟩, ?_⟩
          rintro v' H' ⟨rfl, rfl⟩
          refine ⟨(by show 2 ≤ sizeLine; decide), fun te2 hte2 => ?_⟩
          have xh := xg.put2 (o := .tup [.ref t2, .str (Str.ofString "BadBook " ++ Str.ofString (toString ((ls.length : Int) + 1)))]) hte2
          have tn2 : t2 ≠ te2 := fun z => by rw [← z, upd_same] at hte2; cases hte2
          have hXh := xh.at hXe (by simp)
          have w3 : Ext [D] (upd (upd Hf t2 (.tup (ls ++ ws2))) te2 (.tup [.ref t2, .str (Str.ofString "BadBook " ++ Str.ofString (toString ((ls.length : Int) + 1)))])) (upd (upd (upd Hf t2 (.tup (ls ++ ws2))) te2 (.tup [.ref t2, .str (Str.ofString "BadBook " ++ Str.ofString (toString ((ls.length : Int) + 1)))])) D (.lst (xse ++ [.ref te2]))) := .wr (by simp)
          have l3d := one_lst hXh
          refine ⟨D, _, _, rfl, rfl, hXh, by rw [lXe]; exact small1000 (by omega), _, rfl, upd_same, fun x hx => ?_, (Pe.ext0 xh).put Dp' Dl, (oe.trans xh.weak).put' fD, by rw [List.length_append, lXe]; exact (by decide : 8 ≤ 8)⟩
          refine Entry.ext (L := [D]) ?_ w3 l3d
          rcases List.mem_append.mp hx with hx | hx
          · exact (entB x hx).ext0 xh
          · rw [List.mem_singleton.mp hx]
            refine ⟨te2, .ref t2, .tuple (b.map stD ++ [.tuple [], .none]), _, (ls.length : Int) + 1, "BadBook ", rfl, .of upd_same, .tup (.of (by rw [upd_ne tn2]; exact ht2s)) (DpAll.ext0 (.new hte2) hdat2), ?_, refA, .inl ⟨rfl, rfl⟩, by omega, by omega⟩
            show noLs _ = true
            rw [noLs_iff]
            intro y hy
            rcases List.mem_append.mp hy with hy | hy
            · obtain ⟨s0, _, rfl⟩ := List.mem_map.mp hy
              exact noL_st s0
            · revert hy
              simp
              rintro (rfl | rfl) <;> rfl
        · rw [if_pos (by omega)]
          have h7 : ls.length = 7 := by omega
          have refB : Ref T.x_BadBook.C T.x_Stray.C (.tuple (b.map stD ++ [.tuple []])) T.x_Stray.C (7 : Int) := by
            have e9 : (7 : Int) = ((b.length : Nat) : Int) := by omega
            rw [e9]
            exact .stray (bookD_app b []).symm (form_app fb hn8 ⟨by simp, by simp, by simp, by simp⟩) (stray_app ok)
          have ysne : ws2.take 1 ≠ [] := fun h0 => by
            have := congrArg List.length h0
            rw [List.length_take, lw2] at this
            cases this
          have e1' : (8 : Int) - (ls.length : Int) = 1 := by omega
          rw [e1']
          refine ⟨c2, ws2, rfl, hc2, fun h => absurd h.2 (by rw [lw2]; decide), fun _ c3 hc3 => ?_⟩
          rw [cutOne]
          have ef3 : Ext [] He (upd Hf c3 (.tup (ws2.take 1))) := ef.put2 hc3
          have l31 : (ws2.take 1).length = 1 := by rw [List.length_take, lw2]; rfl
          have hws3 : DpAll K (upd Hf c3 (.tup (ws2.take 1))) (ws2.take 1) [.tuple []] := DpAll.ext0 (.new hc3) (dpAll_take 1 hws2)
          refine ⟨a, c3, ls, (ws2.take 1), rfl, rfl, ef3.tup Lsts.nil hae, (.of upd_same), Nat.le_of_lt (small1000 (by omega)), fun h0 => absurd h0 lsne, fun _ h0 => absurd h0 ysne, fun _ _ t2 ht2 => ?_⟩
          have xg : Ext [] He (upd (upd Hf c3 (.tup (ws2.take 1))) t2 (.tup (ls ++ (ws2.take 1)))) := ef3.put2 ht2
          have ht2s : upd (upd Hf c3 (.tup (ws2.take 1))) t2 (.tup (ls ++ (ws2.take 1))) t2 = some (.tup (ls ++ (ws2.take 1))) := upd_same
          have hdat2 : DpAll K (upd (upd Hf c3 (.tup (ws2.take 1))) t2 (.tup (ls ++ (ws2.take 1)))) (ls ++ (ws2.take 1)) (b.map stD ++ [.tuple []]) := DpAll.append (DpAll.ext0 xg (dp_sts hlse)) (DpAll.ext0 (.new ht2) hws3)
          refine ⟨fun v H' => H' = upd (upd Hf c3 (.tup (ws2.take 1))) t2 (.tup (ls ++ (ws2.take 1))) ∧ v = .str (Str.ofString "Stray " ++ Str.ofString (toString (7 : Int))), ⟨_, rfl, _, _, rfl, rfl, _, rfl, ite2 (fun z => absurd (of_decide_eq_true z) (by omega)) (fun _ => ⟨rfl, s7⟩)⟩, ?_⟩
          rintro v' H' ⟨rfl, rfl⟩
          refine ⟨(by show 2 ≤ sizeLine; decide), fun te2 hte2 => ?_⟩
          have xh := xg.put2 (o := .tup [.ref t2, .str (Str.ofString "Stray " ++ Str.ofString (toString (7 : Int)))]) hte2
          have tn2 : t2 ≠ te2 := fun z => by rw [← z, upd_same] at hte2; cases hte2
          have hXh := xh.at hXe (by simp)
          have w3 : Ext [D] (upd (upd (upd Hf c3 (.tup (ws2.take 1))) t2 (.tup (ls ++ (ws2.take 1)))) te2 (.tup [.ref t2, .str (Str.ofString "Stray " ++ Str.ofString (toString (7 : Int)))])) (upd (upd (upd (upd Hf c3 (.tup (ws2.take 1))) t2 (.tup (ls ++ (ws2.take 1)))) te2 (.tup [.ref t2, .str (Str.ofString "Stray " ++ Str.ofString (toString (7 : Int)))])) D (.lst (xse ++ [.ref te2]))) := .wr (by simp)
          have l3d := one_lst hXh
          refine ⟨D, _, _, rfl, rfl, hXh, by rw [lXe]; exact small1000 (by omega), _, rfl, upd_same, fun x hx => ?_, (Pe.ext0 xh).put Dp' Dl, (oe.trans xh.weak).put' fD, by rw [List.length_append, lXe]; exact (by decide : 8 ≤ 8)⟩
          refine Entry.ext (L := [D]) ?_ w3 l3d
          rcases List.mem_append.mp hx with hx | hx
          · exact (entB x hx).ext0 xh
          · rw [List.mem_singleton.mp hx]
            refine ⟨te2, .ref t2, .tuple (b.map stD ++ [.tuple []]), _, 7, "Stray ", rfl, .of upd_same, .tup (.of (by rw [upd_ne tn2]; exact ht2s)) (DpAll.ext0 (.new hte2) hdat2), ?_, refB, .inr ⟨rfl, rfl⟩, by omega, by omega⟩
            show noLs _ = true
            rw [noLs_iff]
            intro y hy
            rcases List.mem_append.mp hy with hy | hy
            · obtain ⟨s0, _, rfl⟩ := List.mem_map.mp hy
              exact noL_st s0
            · revert hy
              simp
              rintro rfl
              rfl
      · rintro σ H' ⟨xs, h5, hX, he, hP', e', h8'⟩
        exact ⟨_, h5, q D xs H' hX he h8' hP' e'⟩
theorem ok_law_win_no_books (T : Tx K mg) : FnOk P w K mg base CX0 3 T.law_win_no_books.f T.law_win_no_books.fd ["pool", "book"] (sp_law_win_no_books K T.x_BadBook.C T.x_Stray.C) :=
  ⟨fun vs H Q E ⟨p, l, v, b, e, _⟩ => by rw [e]; rfl, fun A outer s H args us vs Q E a b c d ⟨p, l, v, bk, h1, h2, h3, h4, q⟩ => (okN_law_win_no_books T).run A outer s H args us vs Q E a b c d ⟨p, l, v, bk, h1, h2, h3, h4, fun t xs H' x1 x2 _ x3 x4 => q t xs H' x1 x2 x3 x4⟩⟩
end
end Nv
set_option Elab.async false
set_option linter.all false
set_option maxRecDepth 100000
namespace Nv
open PySem PySem.Spec PyProof.Rows L2
open LamX in
/-- the end of a law one of whose defs makes lambdas: P, the table of its code object c -/
theorem endGT {l : PySem.W.OpenLaw} {n k : Nat} {q : Program} {loose : List Str} {XP : (Str → Option Value) → Heap → Prop} {YP : World → Heap → Prop} {d : DefRec} {K : Params → PySem.W.Frag} {sp : PySem.W.Frag → Addr → Sp} {x : Str} {c P : Addr}
    (hn : l.most = some n) (hn2 : n ≤ sizeLine) (hdf : d.params.defaults = []) (hr : Room k callerA) (hY : ∀ (w : World) (h : Heap), YP w h → (K w.params).In h) (hP : ∀ (w : World) (h : Heap), YP w h → h.get? P = some { cls := .none, data := .fields #[] })
    (F : ∀ (w : World) (mg : Str → Option Value) (fa : Addr) (h : Heap), (K w.params).In h → h.Ns mainGlobals mg → mg d.name = some (.ref fa) →
      (K w.params).lookup P = none ∧ PySem.W.codeHdIn (K w.params) c P = true ∧
      ∃ fd : FuncData, (∀ (s : Shared) (u : Value), BindsTo s fd ⟨[u], []⟩ [(x, u)]) ∧ ∀ base : Heap, (K w.params).In base → base.Ns mainGlobals mg → TabB base mg c P → FnG l.prog w (K w.params) mg base CX0 k fa fd [x] (sp (K w.params) P))
    (hsp : ∀ (K : PySem.W.Frag) (H : Hp) (a : Addr) (ns : List Int), ns.length ≤ n → SqL K H a (ns.map V.int) → H P = some (.tbl #[]) → sp K P [.ref a] H (fun v _ => v = .bl true) fun _ _ _ => False) :
    PySem.W.WalkO q loose XP YP l.row.toRowW d [] (fun f vs => PySem.call f vs) := by
  refine Att.attach_call hn hdf fun w s₀ s1 mg mb fa o pm cd doc a vs ns G Y ho hd hcd hmg hobj hints hlen hg => ?_
  have KX := hY w _ Y
  have hP := hP w _ Y
  obtain ⟨nP, hC, fd, hb, hF⟩ := F w mg fa _ KX G.T.g hmg
  have small : ns.length ≤ sizeLine := Nat.le_trans hlen hn2
  obtain ⟨Z, only, seen, hok, dom⟩ := script_gone (P := l.prog) (w := w) KX hobj hints small
  have aP : a ≠ P := fun z => by
    rw [z, hP] at hobj
    cases hobj
  have ZP : Z P = none := by
    cases e : Z P with
    | none => rfl
    | some u => exact absurd (dom P u e).1.symm aP
  obtain ⟨H, eH⟩ : ∃ H : Hp, H = upd Z P (.tbl #[]) := ⟨_, rfl⟩
  have HP : H P = some (.tbl #[]) := by rw [eH, upd_same]
  have Ho : ∀ b, b ≠ P → H b = Z b := fun b hb => by rw [eH, upd_ne hb]
  have seen : SqL (K w.params) H a (ns.map V.int) := by
    rcases seen with (z | ⟨ob, z⟩) | z
    · exact .inl (.inl (by rw [Ho a aP]; exact z))
    · exact .inl (.inr ⟨ob, by rw [Ho a aP]; exact z⟩)
    · exact .inr z
  have what : ∀ b u, H b = some u → (b = P ∧ u = .tbl #[]) ∨ (b ≠ P ∧ b = a ∧ (K w.params).lookup a = none ∧ ∃ ob ys, u = .frz ob (.lst ys) ∧ Z b = some u) := fun b u e => by
    by_cases hb : b = P
    · rw [hb, HP] at e
      exact .inl ⟨hb, (Option.some.inj e).symm⟩
    · rw [Ho b hb] at e
      obtain ⟨h1, h2⟩ := dom b u e
      rcases only b with z | ⟨ob, ys, z⟩
      · rw [z] at e; cases e
      · rw [z] at e
        exact .inr ⟨hb, h1, h2, ob, ys, (Option.some.inj e).symm, by rw [z]; exact e⟩
  have hok : HOk l.prog w H s1.heap := fun b u e => by
    rcases what b u e with ⟨rfl, rfl⟩ | ⟨_, _, _, ob, ys, rfl, z⟩
    · exact hP
    · exact hok b _ z
  have free : ∀ {b : Addr} {o : Obj}, s1.heap.get? b = some o → (∀ xs k, o.data ≠ .seq xs k) → o.data ≠ .fields #[] → H b = none := fun {b o} e n1 n2 => by
    cases q : H b with
    | none => rfl
    | some u =>
      rcases what b u q with ⟨rfl, _⟩ | ⟨_, rfl, _⟩
      · rw [hP] at e
        cases e
        exact (n2 rfl).elim
      · rw [hobj] at e
        cases e
        exact (n1 _ _ rfl).elim
  have dk : ∀ {b : Addr} {o : Obj} {es : Array DictEntry} {ep : Nat}, s1.heap.get? b = some o → o.data = .dict es ep → H b = none := fun {b o es ep} e dd => free e (by rw [dd]; intro _ _ z; cases z) (by rw [dd]; intro z; cases z)
  have ns : ∀ {b : Addr} {m : Str → Option Value}, s1.heap.Ns b m → (hidT s1.heap H).Ns b m := fun {b m} ⟨o, es, ep, e, dd, r⟩ => ⟨o, es, ep, hidT_get e (dk e dd), dd, r⟩
  have inK : (K w.params).In (hidT s1.heap H) := fun b o e => hidT_get (KX b o e) (by
    cases q : H b with
    | none => rfl
    | some u =>
      rcases what b u q with ⟨rfl, _⟩ | ⟨_, rfl, z, _⟩
      · rw [nP] at e; cases e
      · rw [z] at e; cases e)
  have M : Mod (K w.params) mg (hidT s1.heap H) := ⟨inK, ns G.T.g, ⟨mb, ns G.T.b, G.T.builtins⟩, let ⟨mc, h1, h2⟩ := G.T.nolimit; ⟨mc, ns h1, h2⟩⟩
  have e0 : Env0 l.prog w (K w.params) mg (hidT s1.heap H) callerA [] s1 H := ⟨rfl, M, fun b o e => of_hidT e, Nat.le_of_eq (hidT_size _ _), trivial, fun b z => absurd (show b ∈ ([] : List Addr) from z) (by simp), hok, AllBare.of_eq hg⟩
  have gP : mainGlobals ≠ P := fun z => by
    obtain ⟨o, es, ep, e, dd, _⟩ := G.T.g
    rw [z, hP] at e
    cases e
    cases dd
  have bmP : (hidT s1.heap H).BuiltinsAt mg P := by
    obtain ⟨bm, ob, b1, b2, b3, b4, b5, b6⟩ := G.T.bmain
    refine ⟨bm, ob, b1, b2, fun z => ?_, fun z => ?_, hidT_get b3 (free b3 (by rw [b6]; intro _ _ z; cases z) (by rw [b6]; intro z; cases z)), b4, b5, b6⟩
    · obtain ⟨o, es, ep, e, dd, _⟩ := G.T.g
      rw [z, e] at b3
      cases b3
      rw [dd] at b6
      cases b6
    · rw [z, hP] at b3
      cases b3
      cases b6
  have TB : TabB (hidT s1.heap H) mg c P := ⟨PySem.W.codeHd_of_K inK hC, bmP, gP⟩
  refine codeAny_mono ((hF _ inK (ns G.T.g) TB).run callerA [] s1 H ⟨[.ref a], []⟩ [.ref a] [.ref a] _ _ rfl hr e0 (hb s1 (.ref a)) (.cons rfl .nil) (hsp _ H a _ hlen seen HP)) fun r s' h => ?_
  rcases r with e | fl
  · exact (h : False).elim
  · cases fl with
    | next => exact (h : False).elim
    | brk => exact (h : False).elim
    | cont => exact (h : False).elim
    | ret u =>
      obtain ⟨v, H', os, bare, un, hok', rv, qv⟩ := h
      obtain rfl : v = .bl true := qv
      obtain rfl : u = Value.bool true := rv
      obtain ⟨more, ht⟩ : ∃ more : Array Value, s'.heap.get? P = some { cls := .none, data := .fields more } := by
        obtain ⟨more, z⟩ := un.tbls P #[] HP
        exact ⟨_, hok' P _ z⟩
      have stays : ∀ b o, b ≠ P → s1.heap.get? b = some o → s'.heap.get? b = some o := fun b o hb e => by
        cases z : H b with
        | none => exact un.keep b o e z (fun z => absurd (show b ∈ ([] : List Addr) from z) (by simp)) (by simp)
        | some u =>
          rcases what b u z with ⟨z2, _⟩ | ⟨_, _, _, ob, ys, rfl, _⟩
          · exact absurd z2 hb
          · obtain ⟨g1, _⟩ := hok b _ z
            obtain ⟨g2, _⟩ := hok' b _ (un.frzs b ob _ z)
            rw [e] at g1
            cases g1
            exact g2
      refine ⟨rfl, ⟨fun b o e => ?_, fun b o e => ?_⟩, os, bare⟩
      · by_cases hb : b = P
        · subst hb
          rw [hP] at e
          cases e
          exact .inr (.inl ⟨((PySem.W.codeHd_of_K KX hC).tab hP).isCodeTable, rfl, #[], more, rfl, by rw [Array.empty_append]; exact ht⟩)
        · exact .inl (stays b o hb e)
      · by_cases hb : b = P
        · subst hb
          exact ⟨_, ht⟩
        · exact ⟨o, stays b o hb e⟩
end Nv
set_option Elab.async false
set_option linter.all false
set_option maxRecDepth 100000
namespace Nv
open PySem PySem.Spec PyProof.Rows L2
section
variable {P : Program} {w : World} {K : PySem.W.Frag} {mg : Str → Option Value} {base : Heap}
/-! ### what is heard, of any data -/
open LamX in
/-- call(), heard: its error by name and what, or 'none' -/
def THeard {K : PySem.W.Frag} {mg : Str → Option Value} (T : Tx K mg) : (XK → Hp → VK → Prop) → Hp → VK → Prop := fun tl H Q =>
  tl (fun cls d H' => ∃ (nm : Str) (C dx : Addr) (v : V) (dd : PyData), cls = .ref C ∧ ((C = T.x_BadBook.C ∧ nm = "BadBook ") ∨ (C = T.x_Stray.C ∧ nm = "Stray ") ∨ (C = T.x_BadState.C ∧ nm = "BadState ") ∨ (C = T.x_NoMessage.C ∧ nm = "NoMessage ") ∨ (C = T.x_BadMany.C ∧ nm = "BadMany ") ∨ (C = T.x_BadWindow.C ∧ nm = "BadWindow ") ∨ (C = T.x_NoNumber.C ∧ nm = "NoNumber ") ∨ (C = T.x_TooMany.C ∧ nm = "TooMany ")) ∧ d = some dx ∧ XdAt H' dx v ∧ Dp K H' v dd ∧ ShowOk dd ∧ dd.shown.length ≤ 100 ∧ Q (.str (nm ++ dd.shown)) H') H fun _ H' => Q (.str "none") H'
theorem sc_law_win_heard : FnScope ["call", "e"] ["call"] (defScope s_law_win_heard) := ⟨rfl, rfl, rfl, by decide +kernel, rfl, by decide +kernel, by decide +kernel⟩
theorem takes_len {X : Cx} {W : WX} {n : Nat} (tk : Takes X W) (hn : X.N.length = n) : Takes X fun cls d σ H => σ.length = n → W cls d σ H := by
  rintro u s' ⟨a, B, sI, pins, σ, H, cls, d, e, I, nb, up, sky, na, os, ag, w⟩
  exact tk u s' ⟨a, B, sI, pins, σ, H, cls, d, e, I, nb, up, sky, na, os, ag, w (by rw [I.len, hn])⟩
open LamX in
theorem heard_gives (T : Tx K mg) {X : Cx} {k : Nat} (hr : Room (k + 1) X.A) (hG : X.A.guards = some []) (eK : X.K = K) (em : X.mg = mg) {cdg : Value} {q : Str} : GivesTo X ["call", "e"] "_law_win_heard" (defScope s_law_win_heard) T.law_win_heard.f cdg (defBody s_law_win_heard) "call" q (THeard T) := by
  subst eK em
  intro f c' s H Q tl act hc h
  refine ⟨_, pss_cons (ps_try_all (X := (cxOf C8.CX0 X.prog X.w X.K X.mg X.base ["call", "e"] "_law_win_heard" (defScope s_law_win_heard) T.law_win_heard.f cdg X.A X.stack s H C8.E0).nox) (n := "e") (i := 1) (Wout := fun _ _ _ _ => False)
    (tb := fun W D σ H => ∃ Ech : XK, (∀ cls d σ' H', Ech cls d H' → σ'.length = 2 → W cls d σ' H') ∧ σ[0]? = some (some (.ref f)) ∧ H c' = some (CodeO c' q) ∧ tl Ech H fun _ H' => D.nx σ H')
    rfl rfl sc_law_win_heard.nd rfl rfl L2.takes0 (fun W pn xe tk _ => ?_) (.one (c := .ref T.x_BadBook.C) ⟨rfl, by decide, .inl T.x_BadBook.g⟩ (fun a oe cls d pn hz hf => pss_one (ps_ret (pe_op op_add_str pe_str (pe_callB (call_reprAK X.K (X := ((cxOf C8.CX0 X.prog X.w X.K X.mg X.base ["call", "e"] "_law_win_heard" (defScope s_law_win_heard) T.law_win_heard.f cdg X.A X.stack s H C8.E0).nox).suite a ((a, oe) :: pn)) (hr.deeper X.env).units hG) (by rfl) T.n_repr (by decide +kernel) (pa_cons (pe_what (X := (cxOf C8.CX0 X.prog X.w X.K X.mg X.base ["call", "e"] "_law_win_heard" (defScope s_law_win_heard) T.law_win_heard.f cdg X.A X.stack s H C8.E0).nox) T.x_BadBook hz hf (pv 1)) pa_nil))))) (.one (c := .ref T.x_Stray.C) ⟨rfl, by decide, .inl T.x_Stray.g⟩ (fun a oe cls d pn hz hf => pss_one (ps_ret (pe_op op_add_str pe_str (pe_callB (call_reprAK X.K (X := ((cxOf C8.CX0 X.prog X.w X.K X.mg X.base ["call", "e"] "_law_win_heard" (defScope s_law_win_heard) T.law_win_heard.f cdg X.A X.stack s H C8.E0).nox).suite a ((a, oe) :: pn)) (hr.deeper X.env).units hG) (by rfl) T.n_repr (by decide +kernel) (pa_cons (pe_what (X := (cxOf C8.CX0 X.prog X.w X.K X.mg X.base ["call", "e"] "_law_win_heard" (defScope s_law_win_heard) T.law_win_heard.f cdg X.A X.stack s H C8.E0).nox) T.x_Stray hz hf (pv 1)) pa_nil))))) (.one (c := .ref T.x_BadState.C) ⟨rfl, by decide, .inl T.x_BadState.g⟩ (fun a oe cls d pn hz hf => pss_one (ps_ret (pe_op op_add_str pe_str (pe_callB (call_reprAK X.K (X := ((cxOf C8.CX0 X.prog X.w X.K X.mg X.base ["call", "e"] "_law_win_heard" (defScope s_law_win_heard) T.law_win_heard.f cdg X.A X.stack s H C8.E0).nox).suite a ((a, oe) :: pn)) (hr.deeper X.env).units hG) (by rfl) T.n_repr (by decide +kernel) (pa_cons (pe_what (X := (cxOf C8.CX0 X.prog X.w X.K X.mg X.base ["call", "e"] "_law_win_heard" (defScope s_law_win_heard) T.law_win_heard.f cdg X.A X.stack s H C8.E0).nox) T.x_BadState hz hf (pv 1)) pa_nil))))) (.one (c := .ref T.x_NoMessage.C) ⟨rfl, by decide, .inl T.x_NoMessage.g⟩ (fun a oe cls d pn hz hf => pss_one (ps_ret (pe_op op_add_str pe_str (pe_callB (call_reprAK X.K (X := ((cxOf C8.CX0 X.prog X.w X.K X.mg X.base ["call", "e"] "_law_win_heard" (defScope s_law_win_heard) T.law_win_heard.f cdg X.A X.stack s H C8.E0).nox).suite a ((a, oe) :: pn)) (hr.deeper X.env).units hG) (by rfl) T.n_repr (by decide +kernel) (pa_cons (pe_what (X := (cxOf C8.CX0 X.prog X.w X.K X.mg X.base ["call", "e"] "_law_win_heard" (defScope s_law_win_heard) T.law_win_heard.f cdg X.A X.stack s H C8.E0).nox) T.x_NoMessage hz hf (pv 1)) pa_nil))))) (.one (c := .ref T.x_BadMany.C) ⟨rfl, by decide, .inl T.x_BadMany.g⟩ (fun a oe cls d pn hz hf => pss_one (ps_ret (pe_op op_add_str pe_str (pe_callB (call_reprAK X.K (X := ((cxOf C8.CX0 X.prog X.w X.K X.mg X.base ["call", "e"] "_law_win_heard" (defScope s_law_win_heard) T.law_win_heard.f cdg X.A X.stack s H C8.E0).nox).suite a ((a, oe) :: pn)) (hr.deeper X.env).units hG) (by rfl) T.n_repr (by decide +kernel) (pa_cons (pe_what (X := (cxOf C8.CX0 X.prog X.w X.K X.mg X.base ["call", "e"] "_law_win_heard" (defScope s_law_win_heard) T.law_win_heard.f cdg X.A X.stack s H C8.E0).nox) T.x_BadMany hz hf (pv 1)) pa_nil))))) (.one (c := .ref T.x_BadWindow.C) ⟨rfl, by decide, .inl T.x_BadWindow.g⟩ (fun a oe cls d pn hz hf => pss_one (ps_ret (pe_op op_add_str pe_str (pe_callB (call_reprAK X.K (X := ((cxOf C8.CX0 X.prog X.w X.K X.mg X.base ["call", "e"] "_law_win_heard" (defScope s_law_win_heard) T.law_win_heard.f cdg X.A X.stack s H C8.E0).nox).suite a ((a, oe) :: pn)) (hr.deeper X.env).units hG) (by rfl) T.n_repr (by decide +kernel) (pa_cons (pe_what (X := (cxOf C8.CX0 X.prog X.w X.K X.mg X.base ["call", "e"] "_law_win_heard" (defScope s_law_win_heard) T.law_win_heard.f cdg X.A X.stack s H C8.E0).nox) T.x_BadWindow hz hf (pv 1)) pa_nil))))) (.one (c := .ref T.x_NoNumber.C) ⟨rfl, by decide, .inl T.x_NoNumber.g⟩ (fun a oe cls d pn hz hf => pss_one (ps_ret (pe_op op_add_str pe_str (pe_callB (call_reprAK X.K (X := ((cxOf C8.CX0 X.prog X.w X.K X.mg X.base ["call", "e"] "_law_win_heard" (defScope s_law_win_heard) T.law_win_heard.f cdg X.A X.stack s H C8.E0).nox).suite a ((a, oe) :: pn)) (hr.deeper X.env).units hG) (by rfl) T.n_repr (by decide +kernel) (pa_cons (pe_what (X := (cxOf C8.CX0 X.prog X.w X.K X.mg X.base ["call", "e"] "_law_win_heard" (defScope s_law_win_heard) T.law_win_heard.f cdg X.A X.stack s H C8.E0).nox) T.x_NoNumber hz hf (pv 1)) pa_nil))))) (.one (c := .ref T.x_HasLasting.C) ⟨rfl, by decide, .inl T.x_HasLasting.g⟩ (fun a oe cls d pn hz hf => pss_one (ps_ret (pe_op op_add_str pe_str (pe_callB (call_reprAK X.K (X := ((cxOf C8.CX0 X.prog X.w X.K X.mg X.base ["call", "e"] "_law_win_heard" (defScope s_law_win_heard) T.law_win_heard.f cdg X.A X.stack s H C8.E0).nox).suite a ((a, oe) :: pn)) (hr.deeper X.env).units hG) (by rfl) T.n_repr (by decide +kernel) (pa_cons (pe_what (X := (cxOf C8.CX0 X.prog X.w X.K X.mg X.base ["call", "e"] "_law_win_heard" (defScope s_law_win_heard) T.law_win_heard.f cdg X.A X.stack s H C8.E0).nox) T.x_HasLasting hz hf (pv 1)) pa_nil))))) (.one (c := .ref T.x_TooMany.C) ⟨rfl, by decide, .inl T.x_TooMany.g⟩ (fun a oe cls d pn hz hf => pss_one (ps_ret (pe_op op_add_str pe_str (pe_callB (call_reprAK X.K (X := ((cxOf C8.CX0 X.prog X.w X.K X.mg X.base ["call", "e"] "_law_win_heard" (defScope s_law_win_heard) T.law_win_heard.f cdg X.A X.stack s H C8.E0).nox).suite a ((a, oe) :: pn)) (hr.deeper X.env).units hG) (by rfl) T.n_repr (by decide +kernel) (pa_cons (pe_what (X := (cxOf C8.CX0 X.prog X.w X.K X.mg X.base ["call", "e"] "_law_win_heard" (defScope s_law_win_heard) T.law_win_heard.f cdg X.A X.stack s H C8.E0).nox) T.x_TooMany hz hf (pv 1)) pa_nil))))) .none)))))))))) (pss_one (ps_ret pe_str)), ?_⟩
  · refine ⟨fun pins s' σ H' D I h' => ?_⟩
    obtain ⟨Ech, hW, h1, h2, h3⟩ := h'
    exact (pss_one (ps_expr (act _ pn xe Ech _ _ (takes_len (n := 2) tk rfl) hW))).run pins s' σ H' D I ⟨h1, h2, h3⟩
  · refine ⟨_, fun cls d σ' H' hE hl => ?_, rfl, hc, h⟩
    obtain ⟨nm, C, dx, v, dd, rfl, hC, rfl, hd, hv, sh, sl, hq⟩ := hE
    obtain ⟨y0, y1, rfl⟩ : ∃ y0 y1, σ' = [y0, y1] := by
      match σ', hl with
      | [y0, y1], _ => exact ⟨y0, y1, rfl⟩
    rcases hC with ⟨rfl, rfl⟩ | ⟨rfl, rfl⟩ | ⟨rfl, rfl⟩ | ⟨rfl, rfl⟩ | ⟨rfl, rfl⟩ | ⟨rfl, rfl⟩ | ⟨rfl, rfl⟩ | ⟨rfl, rfl⟩
    · refine ⟨true, exm_is _ _ T.s_BadBook_BadBook, fun _ a na => ?_, fun z => by cases z⟩
      refine ⟨_, rfl, rfl, rfl, dx, _, rfl, hd, _, dd, rfl, hv, sh, _, _, rfl, rfl, ?_, hq⟩
      have : (Str.ofString "BadBook ").length = 8 := by decide +kernel
      exact Nat.le_of_lt (small1000 (by omega))
    · refine ⟨false, exm_is _ _ T.s_Stray_BadBook, (fun z => by cases z), fun _ => ?_⟩
      refine ⟨true, exm_is _ _ T.s_Stray_Stray, fun _ a na => ?_, fun z => by cases z⟩
      refine ⟨_, rfl, rfl, rfl, dx, _, rfl, hd, _, dd, rfl, hv, sh, _, _, rfl, rfl, ?_, hq⟩
      have : (Str.ofString "Stray ").length = 6 := by decide +kernel
      exact Nat.le_of_lt (small1000 (by omega))
    · refine ⟨false, exm_is _ _ T.s_BadState_BadBook, (fun z => by cases z), fun _ => ?_⟩
      refine ⟨false, exm_is _ _ T.s_BadState_Stray, (fun z => by cases z), fun _ => ?_⟩
      refine ⟨true, exm_is _ _ T.s_BadState_BadState, fun _ a na => ?_, fun z => by cases z⟩
      refine ⟨_, rfl, rfl, rfl, dx, _, rfl, hd, _, dd, rfl, hv, sh, _, _, rfl, rfl, ?_, hq⟩
      have : (Str.ofString "BadState ").length = 9 := by decide +kernel
      exact Nat.le_of_lt (small1000 (by omega))
    · refine ⟨false, exm_is _ _ T.s_NoMessage_BadBook, (fun z => by cases z), fun _ => ?_⟩
      refine ⟨false, exm_is _ _ T.s_NoMessage_Stray, (fun z => by cases z), fun _ => ?_⟩
      refine ⟨false, exm_is _ _ T.s_NoMessage_BadState, (fun z => by cases z), fun _ => ?_⟩
      refine ⟨true, exm_is _ _ T.s_NoMessage_NoMessage, fun _ a na => ?_, fun z => by cases z⟩
      refine ⟨_, rfl, rfl, rfl, dx, _, rfl, hd, _, dd, rfl, hv, sh, _, _, rfl, rfl, ?_, hq⟩
      have : (Str.ofString "NoMessage ").length = 10 := by decide +kernel
      exact Nat.le_of_lt (small1000 (by omega))
    · refine ⟨false, exm_is _ _ T.s_BadMany_BadBook, (fun z => by cases z), fun _ => ?_⟩
      refine ⟨false, exm_is _ _ T.s_BadMany_Stray, (fun z => by cases z), fun _ => ?_⟩
      refine ⟨false, exm_is _ _ T.s_BadMany_BadState, (fun z => by cases z), fun _ => ?_⟩
      refine ⟨false, exm_is _ _ T.s_BadMany_NoMessage, (fun z => by cases z), fun _ => ?_⟩
      refine ⟨true, exm_is _ _ T.s_BadMany_BadMany, fun _ a na => ?_, fun z => by cases z⟩
      refine ⟨_, rfl, rfl, rfl, dx, _, rfl, hd, _, dd, rfl, hv, sh, _, _, rfl, rfl, ?_, hq⟩
      have : (Str.ofString "BadMany ").length = 8 := by decide +kernel
      exact Nat.le_of_lt (small1000 (by omega))
    · refine ⟨false, exm_is _ _ T.s_BadWindow_BadBook, (fun z => by cases z), fun _ => ?_⟩
      refine ⟨false, exm_is _ _ T.s_BadWindow_Stray, (fun z => by cases z), fun _ => ?_⟩
      refine ⟨false, exm_is _ _ T.s_BadWindow_BadState, (fun z => by cases z), fun _ => ?_⟩
      refine ⟨false, exm_is _ _ T.s_BadWindow_NoMessage, (fun z => by cases z), fun _ => ?_⟩
      refine ⟨false, exm_is _ _ T.s_BadWindow_BadMany, (fun z => by cases z), fun _ => ?_⟩
      refine ⟨true, exm_is _ _ T.s_BadWindow_BadWindow, fun _ a na => ?_, fun z => by cases z⟩
      refine ⟨_, rfl, rfl, rfl, dx, _, rfl, hd, _, dd, rfl, hv, sh, _, _, rfl, rfl, ?_, hq⟩
      have : (Str.ofString "BadWindow ").length = 10 := by decide +kernel
      exact Nat.le_of_lt (small1000 (by omega))
    · refine ⟨false, exm_is _ _ T.s_NoNumber_BadBook, (fun z => by cases z), fun _ => ?_⟩
      refine ⟨false, exm_is _ _ T.s_NoNumber_Stray, (fun z => by cases z), fun _ => ?_⟩
      refine ⟨false, exm_is _ _ T.s_NoNumber_BadState, (fun z => by cases z), fun _ => ?_⟩
      refine ⟨false, exm_is _ _ T.s_NoNumber_NoMessage, (fun z => by cases z), fun _ => ?_⟩
      refine ⟨false, exm_is _ _ T.s_NoNumber_BadMany, (fun z => by cases z), fun _ => ?_⟩
      refine ⟨false, exm_is _ _ T.s_NoNumber_BadWindow, (fun z => by cases z), fun _ => ?_⟩
      refine ⟨true, exm_is _ _ T.s_NoNumber_NoNumber, fun _ a na => ?_, fun z => by cases z⟩
      refine ⟨_, rfl, rfl, rfl, dx, _, rfl, hd, _, dd, rfl, hv, sh, _, _, rfl, rfl, ?_, hq⟩
      have : (Str.ofString "NoNumber ").length = 9 := by decide +kernel
      exact Nat.le_of_lt (small1000 (by omega))
    · refine ⟨false, exm_is _ _ T.s_TooMany_BadBook, (fun z => by cases z), fun _ => ?_⟩
      refine ⟨false, exm_is _ _ T.s_TooMany_Stray, (fun z => by cases z), fun _ => ?_⟩
      refine ⟨false, exm_is _ _ T.s_TooMany_BadState, (fun z => by cases z), fun _ => ?_⟩
      refine ⟨false, exm_is _ _ T.s_TooMany_NoMessage, (fun z => by cases z), fun _ => ?_⟩
      refine ⟨false, exm_is _ _ T.s_TooMany_BadMany, (fun z => by cases z), fun _ => ?_⟩
      refine ⟨false, exm_is _ _ T.s_TooMany_BadWindow, (fun z => by cases z), fun _ => ?_⟩
      refine ⟨false, exm_is _ _ T.s_TooMany_NoNumber, (fun z => by cases z), fun _ => ?_⟩
      refine ⟨false, exm_is _ _ T.s_TooMany_HasLasting, (fun z => by cases z), fun _ => ?_⟩
      refine ⟨true, exm_is _ _ T.s_TooMany_TooMany, fun _ a na => ?_, fun z => by cases z⟩
      refine ⟨_, rfl, rfl, rfl, dx, _, rfl, hd, _, dd, rfl, hv, sh, _, _, rfl, rfl, ?_, hq⟩
      have : (Str.ofString "TooMany ").length = 8 := by decide +kernel
      exact Nat.le_of_lt (small1000 (by omega))
/-! ### a lambda handed to _law_win_heard -/
open LamX in
theorem pe_heardA {K : PySem.W.Frag} {mg : Str → Option Value} {X : Cx} (hG : X.A.guards = some []) {k : Nat} (T : Tx K mg) {c P : Addr} {params : Arguments} {body : Expr} {scope : Scope} {t : XK → TE} {p lpos pos : Pos} (eK : X.K = K) (em : X.mg = mg) (hg : Gl X "_law_win_heard") (TB : TabB X.base X.mg c P) (hcode : X.env.code = .ref c)
    (hr : Room (k + 2) X.A) (L : LamS X.env.scope scope) (hdef : defaultsOf params X.env = ([], [])) (hbind : ∀ (q : Str) (cl : List (Str × Addr)) (pm cv ctv : Value), bindArgs (PySem.W.kla_fn "<lambda>" q params body scope cl pm cv ctv) ⟨[], []⟩ = pure [])
    (hbody : ∀ (A : Around) (outer : List Env) (s : Shared) (H : Hp) (E : XK) (f c' : Addr), Room k (A.deeper (lamEnv X scope s.heap.objs.size f c')) → PE (lamCx X A outer s H E scope f c') body (t E)) :
    PE X (.Call (.Name "_law_win_heard" p) [.Lambda params body scope lpos] [] pos) (tLam [(P, X.env.qual ++ "<lambda>")] (THeard T) t) := by
  subst eK em
  obtain ⟨oc, od, kV, doc, pm, an, cdv, ct, osl, hfd, lk, cd⟩ := T.law_win_heard.F.ex
  rw [hfd] at lk
  have hb := T.law_win_heard.b
  rw [hfd] at hb
  exact pe_lamcall hg T.law_win_heard.g T.law_win_heard.F.kp lk cd hb sc_law_win_heard rfl (.inl rfl) (heard_gives T (k := k + 1) hr hG rfl rfl) TB hcode (List.mem_singleton.mpr rfl) (fun p hp _ => by rw [List.mem_singleton.mp hp]) hr L hdef hbind hbody
theorem extN_of {L : List Addr} {H H' : Hp} (e : Ext L H H') (n : ∀ b ∈ L, ∃ ps, H b = some (.tbl ps)) : LamX.ExtN H H' := fun b o h k => e b o (fun z => by
  obtain ⟨ps, q⟩ := n b z
  rw [h] at q
  exact k ps (Option.some.inj q)) h
theorem ExtN.tup {H H' : Hp} {K : PySem.W.Frag} {a : Addr} {xs : List V} (e : LamX.ExtN H H') (h : SqT K H a xs) : SqT K H' a xs := by
  rcases h with (h | ⟨o, h⟩) | h
  · exact .inl (.inl (e _ _ h fun ps z => nomatch z))
  · exact .inl (.inr ⟨o, e _ _ h fun ps z => nomatch z⟩)
  · exact .inr h
theorem ExtN.lst {H H' : Hp} {K : PySem.W.Frag} {a : Addr} {xs : List V} (e : LamX.ExtN H H') (h : SqL K H a xs) : SqL K H' a xs := by
  rcases h with (h | ⟨o, h⟩) | h
  · exact .inl (.inl (e _ _ h fun ps z => nomatch z))
  · exact .inl (.inr ⟨o, e _ _ h fun ps z => nomatch z⟩)
  · exact .inr h
mutual
theorem Dp.extN {K : PySem.W.Frag} {H H' : Hp} (e : LamX.ExtN H H') : ∀ {v : V} {d : PyData}, Dp K H v d → Dp K H' v d
  | _, _, .non => .non
  | _, _, .bl b => .bl b
  | _, _, .int i => .int i
  | _, _, .str x => .str x
  | _, _, .lst h t => .lst (ExtN.lst e h) (DpAll.extN e t)
  | _, _, .tup h t => .tup (ExtN.tup e h) (DpAll.extN e t)
theorem DpAll.extN {K : PySem.W.Frag} {H H' : Hp} (e : LamX.ExtN H H') : ∀ {vs : List V} {ds : List PyData}, DpAll K H vs ds → DpAll K H' vs ds
  | _, _, .nil => .nil
  | _, _, .cons h t => .cons (Dp.extN e h) (DpAll.extN e t)
end
theorem MvV.extN {K : PySem.W.Frag} {H H' : Hp} (e : LamX.ExtN H H') {p : Addr} {m : Nat × Nat} (h : MvV K H p m) : MvV K H' p m := ExtN.tup e h
theorem StV.extN {K : PySem.W.Frag} {H H' : Hp} (e : LamX.ExtN H H') {v : V} {s : State} (h : StV K H v s) : StV K H' v s := by
  obtain ⟨a, ps, rfl, ⟨o, h1, hd⟩, h2⟩ := h
  exact ⟨a, ps, rfl, ⟨o, e _ _ h1 fun ps z => (nomatch z), hd⟩, Paired.imp h2 fun _ _ q => q.extN e⟩
theorem BkV.extN {K : PySem.W.Frag} {H H' : Hp} (e : LamX.ExtN H H') {v : V} {b : Book} (h : BkV K H v b) : BkV K H' v b := by
  obtain ⟨a, vs, rfl, h1, h2⟩ := h
  exact ⟨a, vs, rfl, ExtN.tup e h1, Paired.imp h2 fun _ _ q => q.extN e⟩
theorem Entry.extN {K : PySem.W.Frag} {CB CS : Addr} {H H' : Hp} {v : V} (h : Entry K CB CS H v) (e : LamX.ExtN H H') : Entry K CB CS H' v := by
  obtain ⟨t, vt, d, C, x, nm, rfl, h1, h2, r⟩ := h
  exact ⟨t, vt, d, C, x, nm, rfl, ExtN.tup e h1, Dp.extN e h2, r⟩
theorem PoolAt.not_tbl {H : Hp} {p l q : Addr} {ts : Array Value} (h : PoolAt H p l) (t : H q = some (.tbl ts)) : q ∉ [p, l] := by
  obtain ⟨_, x, y, ls, h1, h2, _⟩ := h
  refine off2 (fun z => ?_) (fun z => ?_)
  · rw [z, h1] at t; cases t
  · rw [z, h2] at t; cases t
end
end Nv
set_option linter.all false
namespace Nv
open PySem PySem.Spec PyProof.Rows L2
/-! ### rows, by their length -/
def lvM (b : Book) (s : Nat) : Nat → List (List Nat × Nat)
  | 0 => [([], s)]
  | n + 1 => ((lvM b s n).map fun q => (mvs b q.2).map fun p => (q.1 ++ [p.1], p.2)).flatten
def rowsM (b : Book) (s : Nat) : Nat → List (List Nat)
  | 0 => [[]]
  | n + 1 => rowsM b s n ++ (lvM b s (n + 1)).map (·.1)
def nextM (b : Book) (s m : Nat) : Option Nat := ((mvs b s).find? fun p => decide (p.1 = m)).map (·.2)
def atM (b : Book) : Nat → List Nat → Option Nat
  | s, [] => some s
  | s, m :: r => match nextM b s m with
    | some t => atM b t r
    | none => none
theorem msg_inj {b : Book} (fb : FormB b) {s : Nat} {p q : Nat × Nat} (hp : p ∈ mvs b s) (hq : q ∈ mvs b s) (e : p.1 = q.1) : p = q := by
  have hs : s < b.length := by
    by_cases hs : s < b.length
    · exact hs
    · rw [mvs_out (by omega)] at hp
      cases hp
  have h := (fb.ok hs).rise
  generalize mvs b s = l at *
  induction l with
  | nil => cases hp
  | cons x r ih =>
    rw [List.map_cons, List.pairwise_cons] at h
    rcases List.mem_cons.mp hp with rfl | hp' <;> rcases List.mem_cons.mp hq with rfl | hq'
    · rfl
    · have := h.1 q.1 (List.mem_map.mpr ⟨q, hq', rfl⟩)
      omega
    · have := h.1 p.1 (List.mem_map.mpr ⟨p, hp', rfl⟩)
      omega
    · exact ih hp' hq' h.2
theorem next_mem {b : Book} (fb : FormB b) {s : Nat} {p : Nat × Nat} (hp : p ∈ mvs b s) : nextM b s p.1 = some p.2 := by
  unfold nextM
  cases e : (mvs b s).find? fun q => decide (q.1 = p.1) with
  | none =>
    have := List.find?_eq_none.mp e p hp
    simp at this
  | some q =>
    have h1 := List.mem_of_find?_eq_some e
    have h2 := List.find?_some e
    have := msg_inj fb hp h1 (of_decide_eq_true h2).symm
    rw [this]
    rfl
theorem at_snoc {b : Book} : ∀ (r : List Nat) (s h m : Nat), atM b s r = some h → atM b s (r ++ [m]) = nextM b h m
  | [], s, h, m, e => by
    cases e
    show (match nextM b s m with | some t => atM b t [] | none => none) = _
    cases nextM b s m <;> rfl
  | x :: r, s, h, m, e => by
    show (match nextM b s x with | some t => atM b t (r ++ [m]) | none => none) = _
    have e : (match nextM b s x with | some t => atM b t r | none => none) = some h := e
    cases hn : nextM b s x with
    | none => rw [hn] at e; cases e
    | some t =>
      rw [hn] at e
      exact at_snoc r t h m e
theorem mem_lv {b : Book} {s n : Nat} {x : List Nat × Nat} : x ∈ lvM b s (n + 1) ↔ ∃ q ∈ lvM b s n, ∃ p ∈ mvs b q.2, x = (q.1 ++ [p.1], p.2) := by
  show x ∈ (((lvM b s n).map fun q => (mvs b q.2).map fun p => (q.1 ++ [p.1], p.2)).flatten) ↔ _
  rw [List.mem_flatten]
  constructor
  · rintro ⟨l, hl, hx⟩
    obtain ⟨q, hq, rfl⟩ := List.mem_map.mp hl
    obtain ⟨p, hp, rfl⟩ := List.mem_map.mp hx
    exact ⟨q, hq, p, hp, rfl⟩
  · rintro ⟨q, hq, p, hp, rfl⟩
    exact ⟨_, List.mem_map.mpr ⟨q, hq, rfl⟩, List.mem_map.mpr ⟨p, hp, rfl⟩⟩
theorem lv_lt {b : Book} (fb : FormB b) {s : Nat} (hs : s < b.length) : ∀ n, ∀ q ∈ lvM b s n, q.2 < b.length
  | 0, q, hq => by rw [List.mem_singleton.mp hq]; exact hs
  | n + 1, q, hq => by
    obtain ⟨x, _, p, hp, rfl⟩ := mem_lv.mp hq
    exact fb.to hp
theorem lv_at {b : Book} (fb : FormB b) {s : Nat} : ∀ n, ∀ q ∈ lvM b s n, atM b s q.1 = some q.2
  | 0, q, hq => by rw [List.mem_singleton.mp hq]; rfl
  | n + 1, q, hq => by
    obtain ⟨x, hx, p, hp, rfl⟩ := mem_lv.mp hq
    rw [at_snoc _ _ _ _ (lv_at fb n x hx)]
    exact next_mem fb hp
theorem lv_row {b : Book} (fb : FormB b) {s : Nat} : ∀ n, ∀ q ∈ lvM b s n, (∀ m ∈ q.1, m ≤ 99) ∧ q.1.length = n
  | 0, q, hq => by rw [List.mem_singleton.mp hq]; exact ⟨fun m hm => (nomatch hm), rfl⟩
  | n + 1, q, hq => by
    obtain ⟨x, hx, p, hp, rfl⟩ := mem_lv.mp hq
    obtain ⟨h1, h2⟩ := lv_row fb n x hx
    have hs : x.2 < b.length := by
      by_cases hs : x.2 < b.length
      · exact hs
      · rw [mvs_out (by omega)] at hp
        cases hp
    refine ⟨fun m hm => ?_, by simp [h2]⟩
    rcases List.mem_append.mp hm with hm | hm
    · exact h1 m hm
    · rw [List.mem_singleton.mp hm]
      exact (fb.ok hs).msg p hp
theorem lv_ex {b : Book} (fb : FormB b) {s : Nat} : ∀ n k, k ∈ exL b s n ↔ ∃ q ∈ lvM b s n, q.2 = k
  | 0, k => by
    show k ∈ [s] ↔ ∃ q ∈ [(([] : List Nat), s)], q.2 = k
    simp [eq_comm]
  | n + 1, k => by
    show k ∈ nextL b (exL b s n) ↔ _
    rw [mem_next fb]
    constructor
    · rintro ⟨j, hj, p, hp, e⟩
      obtain ⟨q, hq, rfl⟩ := (lv_ex fb n j).mp hj
      exact ⟨_, mem_lv.mpr ⟨q, hq, p, hp, rfl⟩, e⟩
    · rintro ⟨x, hx, e⟩
      obtain ⟨q, hq, p, hp, rfl⟩ := mem_lv.mp hx
      exact ⟨q.2, (lv_ex fb n _).mpr ⟨q, hq, rfl⟩, p, hp, e⟩
theorem lv_len {b : Book} (fb : FormB b) {s : Nat} : ∀ n, (lvM b s n).length ≤ 5 ^ n
  | 0 => by simp [lvM]
  | n + 1 => by
    have ih := lv_len (b := b) fb (s := s) n
    show (((lvM b s n).map fun q => (mvs b q.2).map fun p => (q.1 ++ [p.1], p.2)).flatten).length ≤ _
    have : ∀ l : List (List Nat × Nat), ((l.map fun q => (mvs b q.2).map fun p => (q.1 ++ [p.1], p.2)).flatten).length ≤ 5 * l.length := by
      intro l
      induction l with
      | nil => simp
      | cons x r ih =>
        rw [List.map_cons, List.flatten_cons, List.length_append, List.length_map, List.length_cons]
        have : (mvs b x.2).length ≤ 5 := by
          by_cases hs : x.2 < b.length
          · exact (fb.ok hs).few
          · rw [mvs_out (by omega)]
            simp
        omega
    have := this (lvM b s n)
    rw [Nat.pow_succ]
    omega
theorem mem_rows {b : Book} {s : Nat} : ∀ n r, r ∈ rowsM b s n ↔ ∃ j, j ≤ n ∧ ∃ q ∈ lvM b s j, q.1 = r
  | 0, r => by
    show r ∈ [[]] ↔ _
    constructor
    · intro h
      rw [List.mem_singleton.mp h]
      exact ⟨0, Nat.le_refl _, _, List.mem_singleton.mpr rfl, rfl⟩
    · rintro ⟨j, hj, q, hq, e⟩
      have : j = 0 := by omega
      subst this
      rw [List.mem_singleton.mp hq] at e
      rw [← e]
      exact List.mem_singleton.mpr rfl
  | n + 1, r => by
    show r ∈ rowsM b s n ++ (lvM b s (n + 1)).map (·.1) ↔ _
    rw [List.mem_append, mem_rows n r, List.mem_map]
    constructor
    · rintro (⟨j, hj, h⟩ | ⟨q, hq, e⟩)
      · exact ⟨j, by omega, h⟩
      · exact ⟨n + 1, Nat.le_refl _, q, hq, e⟩
    · rintro ⟨j, hj, q, hq, e⟩
      by_cases h : j ≤ n
      · exact .inl ⟨j, h, q, hq, e⟩
      · have : j = n + 1 := by omega
        subst this
        exact .inr ⟨q, hq, e⟩
theorem rows_succ {b : Book} {s : Nat} (n : Nat) : (rowsM b s (n + 1)).length = (rowsM b s n).length + (lvM b s (n + 1)).length := by
  show (rowsM b s n ++ (lvM b s (n + 1)).map (·.1)).length = _
  rw [List.length_append, List.length_map]
theorem rows_len {b : Book} (fb : FormB b) {s n : Nat} (hn : n ≤ 3) : (rowsM b s n).length ≤ 156 ∧ (lvM b s n).length ≤ 125 := by
  have l0 := lv_len fb (s := s) 0
  have l1 := lv_len fb (s := s) 1
  have l2 := lv_len fb (s := s) 2
  have l3 := lv_len fb (s := s) 3
  have r0 : (rowsM b s 0).length = 1 := rfl
  have r1 : (rowsM b s 1).length = (rowsM b s 0).length + (lvM b s 1).length := rows_succ 0
  have r2 : (rowsM b s 2).length = (rowsM b s 1).length + (lvM b s 2).length := rows_succ 1
  have r3 : (rowsM b s 3).length = (rowsM b s 2).length + (lvM b s 3).length := rows_succ 2
  have : n = 0 ∨ n = 1 ∨ n = 2 ∨ n = 3 := by omega
  rcases this with rfl | rfl | rfl | rfl <;> exact ⟨by omega, by omega⟩
/-- the states to which the rows come -/
theorem rows_ends {b : Book} (fb : FormB b) {t n : Nat} (ht : t < b.length) (hn : n < 8) {k : Nat} : (∃ r ∈ rowsM b t n, atM b t r = some k) ↔ k ∈ ledL b t (n + 1) := by
  rw [led_ends fb ht, mem_ends fb ht, Nat.min_eq_left (by omega)]
  constructor
  · rintro ⟨r, hr, e⟩
    obtain ⟨j, hj, q, hq, rfl⟩ := (mem_rows n r).mp hr
    rw [lv_at fb j q hq] at e
    exact ⟨j, by omega, (lv_ex fb j k).mpr ⟨q, hq, Option.some.inj e⟩⟩
  · rintro ⟨j, hj, h⟩
    obtain ⟨q, hq, rfl⟩ := (lv_ex fb j k).mp h
    exact ⟨q.1, (mem_rows n q.1).mpr ⟨j, by omega, q, hq, rfl⟩, lv_at fb j q hq⟩
theorem ledL_srt (b : Book) (t m : Nat) : (ledL b t m).Pairwise (· < ·) := by
  unfold ledL
  split
  · exact .nil
  · exact wiL_srt _ _ _
theorem led_eq_ends {b : Book} (fb : FormB b) {t m : Nat} (ht : t < b.length) : ledL b t m = endsL b t (min m 8) := srt_eq (ledL_srt b t m) (endsL_srt b t _) fun k => led_ends fb ht
theorem led_eq_full {b : Book} (fb : FormB b) {t m : Nat} (ht : t < b.length) (h : b.length ≤ m) : ledL b t m = endsL b t (min 8 8) := by
  rw [led_full fb ht h, ← led_full fb ht fb.eight]
  exact led_eq_ends fb ht
theorem led_len {b : Book} {t m : Nat} (ht : t < b.length) : (ledL b t m).length ≤ b.length := nodup_le (srt_nodup (ledL_srt b t m)) (ledL_lt ht)
end Nv
set_option Elab.async false
set_option linter.all false
set_option maxRecDepth 100000
namespace Nv
open PySem PySem.Spec PyProof.Rows L2
theorem op_catAK (K : PySem.W.Frag) {X : Cx} (h : X.K = K := by rfl) : OpR X (binaryOp .Add) (rCatA K) := by subst h; exact op_catA
/-! ### sorted(set), of few unlike numbers -/
theorem SetR_few {w : World} {h : Heap} {a : Addr} {S : Int → Bool} {n : Nat} (R : SetR w h a S n) {L : List Int} (hL : ∀ k, S k = true → k ∈ L) : n ≤ L.length := by
  obtain ⟨o, es, ep, t, ho, hx, hd, g, nd, hm, hb, hf, hn, _⟩ := R
  have := List.Nodup.length_le_of_subset nd (l₂ := L) fun k hk => hL k ((hm k).mpr hk)
  rw [List.length_map, Array.length_toList] at this
  omega
def rSortedSetL (w : World) : List V → Hp → VK → Prop := fun vs H Q => ∃ (a : Addr) (S : Int → Bool) (n : Nat) (L : List Int), vs = [V.ref a] ∧ H a = some (SetO w a S n) ∧ (∀ k, S k = true → k ∈ L) ∧ L.length < 64 ∧
  ∀ (ns : List Int) (p : Addr), ns.Pairwise (· < ·) → (∀ k : Int, k ∈ ns ↔ S k = true) → H p = none → Q (.ref p) (upd H p (.lst (ns.map V.int)))
theorem cr_sortedSetL {X : Cx} (hc : X.calm = true) : CallR X (.builtin "sorted") (rSortedSetL X.w) := by
  intro pins s σ H vs us Q I r h
  obtain ⟨a, S, n, L, e, ha, hS, h64, q⟩ := h
  have R := setO_get I ha
  have := SetR_few R hS
  exact cr_sortedSet hc pins s σ H vs us Q I r ⟨a, S, n, e, ha, by omega, fun ns p h1 h2 _ h4 => q ns p h1 h2 h4⟩
/-! ### rows and pairs of a row and a state -/
def RwV (K : PySem.W.Frag) (H : Hp) (v : V) (r : List Nat) : Prop := ∃ a : Addr, v = .ref a ∧ SqT K H a (r.map nV)
def PrV (K : PySem.W.Frag) (H : Hp) (v : V) (q : List Nat × Nat) : Prop := ∃ (a : Addr) (u : V), v = .ref a ∧ SqT K H a [u, .int q.2] ∧ RwV K H u q.1
theorem RwV.ext {K : PySem.W.Frag} {L : List Addr} {H H' : Hp} {v : V} {r : List Nat} (h : RwV K H v r) (e : Ext L H H') (l : Lsts L H) : RwV K H' v r := by
  obtain ⟨a, rfl, h1⟩ := h
  exact ⟨a, rfl, e.tup l h1⟩
theorem PrV.ext {K : PySem.W.Frag} {L : List Addr} {H H' : Hp} {v : V} {q : List Nat × Nat} (h : PrV K H v q) (e : Ext L H H') (l : Lsts L H) : PrV K H' v q := by
  obtain ⟨a, u, rfl, h1, h2⟩ := h
  exact ⟨a, u, rfl, e.tup l h1, h2.ext e l⟩
theorem RwV.ext0 {K : PySem.W.Frag} {H H' : Hp} {v : V} {r : List Nat} (h : RwV K H v r) (e : Ext [] H H') : RwV K H' v r := h.ext e Lsts.nil
theorem PrV.ext0 {K : PySem.W.Frag} {H H' : Hp} {v : V} {q : List Nat × Nat} (h : PrV K H v q) (e : Ext [] H H') : PrV K H' v q := h.ext e Lsts.nil
theorem RwV.put {K : PySem.W.Frag} {H : Hp} {v : V} {r : List Nat} {p : Addr} {xs ys : List V} (h : RwV K H v r) (hp : H p = some (.lst xs)) : RwV K (upd H p (.lst ys)) v r := h.ext (L := [p]) (.wr (by simp)) (one_lst hp)
theorem PrV.put {K : PySem.W.Frag} {H : Hp} {v : V} {q : List Nat × Nat} {p : Addr} {xs ys : List V} (h : PrV K H v q) (hp : H p = some (.lst xs)) : PrV K (upd H p (.lst ys)) v q := h.ext (L := [p]) (.wr (by simp)) (one_lst hp)
theorem Paired.app {α β : Type} {F : α → β → Prop} : ∀ {l₁ : List α} {m₁ : List β} {l₂ : List α} {m₂ : List β}, Paired F l₁ m₁ → Paired F l₂ m₂ → Paired F (l₁ ++ l₂) (m₁ ++ m₂)
  | _, _, _, _, .nil, h => h
  | _, _, _, _, .cons r t, h => .cons r (Paired.app t h)
theorem next_head {b : Book} (fb : FormB b) {s : Nat} {p : Nat × Nat} (hp : p ∈ mvs b s) : ∃ rest, ((mvs b s).filter fun q => decide (q.1 = p.1)).map (·.2) = p.2 :: rest := by
  have h := next_mem fb hp
  unfold nextM at h
  rw [← List.head?_filter, ← List.head?_map] at h
  cases e : ((mvs b s).filter fun q => decide (q.1 = p.1)).map (·.2) with
  | nil => rw [e] at h; cases h
  | cons x r =>
    rw [e] at h
    have h := Option.some.inj h
    rw [h]
    exact ⟨r, rfl⟩
theorem next_some {b : Book} {s m t : Nat} (h : nextM b s m = some t) : ∃ p ∈ mvs b s, p.1 = m ∧ p.2 = t := by
  unfold nextM at h
  cases e : (mvs b s).find? fun p => decide (p.1 = m) with
  | none => rw [e] at h; cases h
  | some p =>
    rw [e] at h
    exact ⟨p, List.mem_of_find?_eq_some e, of_decide_eq_true (by simpa using List.find?_some e), Option.some.inj h⟩
theorem drop_at {α : Type} {l : List α} {i : Nat} {x : α} (h : l[i]? = some x) : l.drop i = x :: l.drop (i + 1) := by
  obtain ⟨hi, e⟩ := List.getElem?_eq_some_iff.mp h
  rw [List.drop_eq_getElem_cons hi, e]
end Nv
set_option linter.all false
namespace Nv
open PySem PySem.Spec PyProof.Rows L2
/-! ### how many rows lead to a ring -/
def ringB (b : Book) (s : Nat) : Bool := decide (0 < waysM b s)
def cM (b : Book) : Nat → Nat → Nat
  | 0, _ => 0
  | r + 1, s => if ringB b s = true then 1 else ((mvs b s).map fun p => cM b r p.2).sum
theorem ring_iff {b : Book} (fb : FormB b) {s : Nat} : ringB b s = true ↔ ∃ p ∈ mvs b s, Rt b p.2 s := by
  unfold ringB waysM
  rw [decide_eq_true_eq, List.length_pos_iff]
  constructor
  · intro h
    obtain ⟨p, hp⟩ := List.exists_mem_of_ne_nil _ h
    obtain ⟨h1, h2⟩ := List.mem_filter.mp hp
    exact ⟨p, h1, (mem_wi fb (fb.to h1) (by rw [Nat.min_self]; omega)).mp (of_decide_eq_true h2)⟩
  · rintro ⟨p, hp, h⟩ e
    have : p ∈ ([] : List (Nat × Nat)) := by
      rw [← e]
      exact List.mem_filter.mpr ⟨hp, decide_eq_true ((mem_wi fb (fb.to hp) (by rw [Nat.min_self]; omega)).mpr h)⟩
    cases this
def nonR (b : Book) (s : Nat) : List Nat := (List.range b.length).filter fun u => !ringB b u && decide (u ∈ wiL b s b.length)
theorem mem_nonR {b : Book} (fb : FormB b) {s u : Nat} (hs : s < b.length) : u ∈ nonR b s ↔ u < b.length ∧ ringB b u = false ∧ Rt b s u := by
  unfold nonR
  rw [mem_filt, Bool.and_eq_true, decide_eq_true_eq, mem_wi fb hs (by omega)]
  constructor
  · rintro ⟨h1, h2, h3⟩
    exact ⟨h1, by simpa using h2, h3⟩
  · rintro ⟨h1, h2, h3⟩
    exact ⟨h1, by simpa using h2, h3⟩
theorem nonR_nd (b : Book) (s : Nat) : (nonR b s).Nodup := srt_nodup (filt_srt _ _)
theorem nonR_lt {b : Book} (fb : FormB b) {s : Nat} (hs : s < b.length) (hn : ringB b s = false) {p : Nat × Nat} (hp : p ∈ mvs b s) : (nonR b p.2).length < (nonR b s).length := by
  have hp2 := fb.to hp
  have nin : s ∉ nonR b p.2 := fun z => by
    have := (mem_nonR fb hp2).mp z
    rw [(ring_iff fb).mpr ⟨p, hp, this.2.2⟩] at hn
    cases hn
  have nd : (s :: nonR b p.2).Nodup := List.nodup_cons.mpr ⟨nin, nonR_nd _ _⟩
  have := List.Nodup.length_le_of_subset nd (l₂ := nonR b s) fun k hk => by
    rcases List.mem_cons.mp hk with rfl | hk
    · exact (mem_nonR fb hs).mpr ⟨hs, hn, .refl _⟩
    · obtain ⟨h1, h2, h3⟩ := (mem_nonR fb hp2).mp hk
      exact (mem_nonR fb hs).mpr ⟨h1, h2, (Rt.one hp).trans h3⟩
  rw [List.length_cons] at this
  omega
theorem c_stab {b : Book} (fb : FormB b) : ∀ (n s : Nat), s < b.length → (nonR b s).length ≤ n → ∀ k, n + 1 ≤ k → cM b k s = cM b (n + 1) s := by
  intro n
  induction n with
  | zero =>
    intro s hs hN k hk
    have hr : ringB b s = true := by
      cases h : ringB b s with
      | true => rfl
      | false =>
        have : s ∈ nonR b s := (mem_nonR fb hs).mpr ⟨hs, h, .refl _⟩
        have := List.length_pos_of_mem this
        omega
    obtain ⟨k, rfl⟩ : ∃ j, k = j + 1 := ⟨k - 1, by omega⟩
    show (if ringB b s = true then 1 else _) = (if ringB b s = true then 1 else _)
    rw [if_pos hr, if_pos hr]
  | succ n ih =>
    intro s hs hN k hk
    obtain ⟨k, rfl⟩ : ∃ j, k = j + 1 := ⟨k - 1, by omega⟩
    show (if ringB b s = true then 1 else _) = (if ringB b s = true then 1 else _)
    cases h : ringB b s with
    | true => rfl
    | false =>
      rw [if_neg (by simp), if_neg (by simp)]
      congr 1
      refine List.map_congr_left fun p hp => ?_
      have := nonR_lt fb hs h hp
      exact ih p.2 (fb.to hp) (by omega) k (by omega)
theorem c_zero {b : Book} (h : ∀ s, ringB b s = false) : ∀ k s, cM b k s = 0
  | 0, _ => rfl
  | k + 1, s => by
    show (if ringB b s = true then 1 else ((mvs b s).map fun p => cM b k p.2).sum) = 0
    rw [if_neg (by rw [h s]; simp)]
    have : (mvs b s).map (fun p => cM b k p.2) = (mvs b s).map fun _ => 0 := List.map_congr_left fun p _ => c_zero h k p.2
    rw [this]
    induction mvs b s with
    | nil => rfl
    | cons x r ih => simpa using ih
theorem c_len {b : Book} (fb : FormB b) {s : Nat} (hs : s < b.length) : cM b b.length s = cM b 9 s := by
  have h8 := fb.eight
  have h1 := fb.one
  by_cases h : ∃ u, ringB b u = true
  · obtain ⟨u, hu⟩ := h
    have hub : u < b.length := by
      by_cases hub : u < b.length
      · exact hub
      · unfold ringB waysM at hu
        rw [mvs_out (by omega)] at hu
        cases hu
    have nin : u ∉ nonR b s := fun z => by
      have := ((mem_nonR fb hs).mp z).2.1
      rw [hu] at this
      cases this
    have nd : (u :: nonR b s).Nodup := List.nodup_cons.mpr ⟨nin, nonR_nd _ _⟩
    have := nodup_le (n := b.length) nd fun k hk => by
      rcases List.mem_cons.mp hk with rfl | hk
      · exact hub
      · exact ((mem_nonR fb hs).mp hk).1
    rw [List.length_cons] at this
    have a := c_stab fb (b.length - 1) s hs (by omega) b.length (by omega)
    have c := c_stab fb (b.length - 1) s hs (by omega) 9 (by omega)
    rw [a, c]
  · have h : ∀ s, ringB b s = false := fun s => by
      cases e : ringB b s with
      | false => rfl
      | true => exact absurd ⟨s, e⟩ h
    rw [c_zero h, c_zero h]
/-! ### numbers of rows, by the state -/
def wS (l : List (Nat × Nat)) (f : Nat → Nat) : Nat := (l.map fun q => q.2 * f q.1).sum
def getN (l : List (Nat × Nat)) (k : Nat) : Nat := ((l.find? fun q => decide (q.1 = k)).map (·.2)).getD 0
def putN (l : List (Nat × Nat)) (k n : Nat) : List (Nat × Nat) := if (l.any fun q => decide (q.1 = k)) = true then l.map (fun q => if q.1 = k then (q.1, n) else q) else l ++ [(k, n)]
theorem wS_nil (f : Nat → Nat) : wS [] f = 0 := rfl
theorem wS_cons (q : Nat × Nat) (l : List (Nat × Nat)) (f : Nat → Nat) : wS (q :: l) f = q.2 * f q.1 + wS l f := rfl
theorem wS_app (l m : List (Nat × Nat)) (f : Nat → Nat) : wS (l ++ m) f = wS l f + wS m f := by
  unfold wS
  rw [List.map_append, List.sum_append]
theorem put_in {l : List (Nat × Nat)} {k n : Nat} (nd : (l.map (·.1)).Nodup) (hk : k ∈ l.map (·.1)) (f : Nat → Nat) : wS (l.map fun q => if q.1 = k then (q.1, getN l k + n) else q) f = wS l f + n * f k := by
  induction l with
  | nil => cases hk
  | cons q r ih =>
    rw [List.map_cons, List.nodup_cons] at nd
    rw [List.map_cons, wS_cons, wS_cons]
    by_cases e : q.1 = k
    · have g : getN (q :: r) k = q.2 := by simp [getN, List.find?_cons, e]
      have same : (r.map fun q' => if q'.1 = k then (q'.1, getN (q :: r) k + n) else q') = r := by
        conv => rhs; rw [← List.map_id r]
        refine List.map_congr_left fun x hx => ?_
        have : x.1 ≠ k := fun z => nd.1 (by rw [e, ← z]; exact List.mem_map.mpr ⟨x, hx, rfl⟩)
        rw [if_neg this]
        rfl
      rw [same, if_pos e, g]
      show (q.2 + n) * f q.1 + wS r f = q.2 * f q.1 + wS r f + n * f k
      rw [e, Nat.add_mul]
      omega
    · have g : getN (q :: r) k = getN r k := by simp [getN, List.find?_cons, e]
      have hk' : k ∈ r.map (·.1) := by
        rcases List.mem_cons.mp hk with z | z
        · exact absurd z.symm e
        · exact z
      have := ih nd.2 hk'
      rw [if_neg e, g, this]
      omega
theorem any_key {l : List (Nat × Nat)} {k : Nat} : (l.any fun q => decide (q.1 = k)) = true ↔ k ∈ l.map (·.1) := by
  rw [List.any_eq_true, List.mem_map]
  constructor
  · rintro ⟨q, hq, e⟩
    exact ⟨q, hq, of_decide_eq_true e⟩
  · rintro ⟨q, hq, e⟩
    exact ⟨q, hq, decide_eq_true e⟩
theorem get_out {l : List (Nat × Nat)} {k : Nat} (h : k ∉ l.map (·.1)) : getN l k = 0 := by
  unfold getN
  cases e : l.find? fun q => decide (q.1 = k) with
  | none => rfl
  | some q =>
    exact absurd (List.mem_map.mpr ⟨q, List.mem_of_find?_eq_some e, of_decide_eq_true (by simpa using List.find?_some e)⟩) h
theorem wS_put {l : List (Nat × Nat)} (nd : (l.map (·.1)).Nodup) (k n : Nat) (f : Nat → Nat) : wS (putN l k (getN l k + n)) f = wS l f + n * f k := by
  unfold putN
  by_cases h : (l.any fun q => decide (q.1 = k)) = true
  · rw [if_pos h]
    exact put_in nd (any_key.mp h) f
  · rw [if_neg h, get_out (fun z => h (any_key.mpr z)), wS_app, wS_cons, wS_nil, Nat.zero_add]
    rfl
theorem put_keys {l : List (Nat × Nat)} {k n : Nat} : (putN l k n).map (·.1) = if k ∈ l.map (·.1) then l.map (·.1) else l.map (·.1) ++ [k] := by
  unfold putN
  by_cases h : (l.any fun q => decide (q.1 = k)) = true
  · rw [if_pos h, if_pos (any_key.mp h), List.map_map]
    refine List.map_congr_left fun x _ => ?_
    show (if x.1 = k then (x.1, n) else x).1 = x.1
    split <;> rfl
  · rw [if_neg h, if_neg (fun z => h (any_key.mpr z)), List.map_append]
    rfl
theorem put_nd {l : List (Nat × Nat)} {k n : Nat} (nd : (l.map (·.1)).Nodup) : ((putN l k n).map (·.1)).Nodup := by
  rw [put_keys]
  split
  · exact nd
  · rename_i h
    rw [List.nodup_append]
    exact ⟨nd, by simp, fun x hx y hy e => h (by rw [← List.mem_singleton.mp hy, ← e]; exact hx)⟩
theorem put_lt {l : List (Nat × Nat)} {k n m : Nat} (h : ∀ x ∈ l.map (·.1), x < m) (hk : k < m) : ∀ x ∈ (putN l k n).map (·.1), x < m := by
  rw [put_keys]
  split
  · exact h
  · intro x hx
    rcases List.mem_append.mp hx with hx | hx
    · exact h x hx
    · rw [List.mem_singleton.mp hx]
      exact hk
theorem get_at {l : List (Nat × Nat)} (nd : (l.map (·.1)).Nodup) {i : Nat} {q : Nat × Nat} (h : l[i]? = some q) : l.find? (fun x => decide (x.1 = q.1)) = some q := by
  have hm := List.mem_of_getElem? h
  clear h
  induction l with
  | nil => cases hm
  | cons x r ih =>
    rw [List.map_cons, List.nodup_cons] at nd
    by_cases e : x.1 = q.1
    · rcases List.mem_cons.mp hm with rfl | hm
      · simp [List.find?_cons]
      · exact absurd (by rw [e]; exact List.mem_map.mpr ⟨q, hm, rfl⟩) nd.1
    · rcases List.mem_cons.mp hm with rfl | hm
      · exact absurd rfl e
      · rw [List.find?_cons]
        simp only [e, decide_false]
        exact ih nd.2 hm
/-- such numbers as a dict -/
def kvN (l : List (Nat × Nat)) : List (Key × V) := l.map fun q => (kN q.1, nV q.2)
theorem kN_inj {a b : Nat} : kN a = kN b ↔ a = b := by
  constructor
  · intro h
    have := Sum.inl.inj h
    omega
  · rintro rfl; rfl
theorem val_kvN (l : List (Nat × Nat)) (k : Nat) : valV (kvN l) (kN k) = (l.find? fun q => decide (q.1 = k)).map fun q => nV q.2 := by
  unfold valV kvN
  rw [List.find?_map]
  have : ((fun kv : Key × V => decide (kv.1 = kN k)) ∘ fun q : Nat × Nat => (kN q.1, nV q.2)) = fun q => decide (q.1 = k) := by
    funext q
    exact decide_eq_decide.mpr kN_inj
  rw [this]
  cases l.find? fun q => decide (q.1 = k) <;> rfl
theorem getD_kvN (l : List (Nat × Nat)) (k : Nat) : (valV (kvN l) (kN k)).getD (.int 0) = nV (getN l k) := by
  rw [val_kvN]
  unfold getN
  cases l.find? fun q => decide (q.1 = k) <;> rfl
theorem put_kvN (l : List (Nat × Nat)) (k n : Nat) : putK (kvN l) (kN k) (nV n) = kvN (putN l k n) := by
  unfold putK putN kvN
  rw [List.any_map]
  have e : ((fun kv : Key × V => decide (kv.1 = kN k)) ∘ fun q : Nat × Nat => (kN q.1, nV q.2)) = fun q => decide (q.1 = k) := by
    funext q
    exact decide_eq_decide.mpr kN_inj
  rw [e]
  by_cases h : (l.any fun q => decide (q.1 = k)) = true
  · rw [if_pos h, if_pos h, List.map_map, List.map_map]
    refine List.map_congr_left fun q _ => ?_
    show (if kN q.1 = kN k then (kN q.1, nV n) else (kN q.1, nV q.2)) = _
    by_cases e : q.1 = k
    · simp [e]
    · rw [if_neg (fun z => e (kN_inj.mp z))]
      simp [e]
  · rw [if_neg h, if_neg h, List.map_append]
    rfl
/-! ### the first fork -/
inductive Chain (b : Book) : Nat → Nat → Nat → Prop
  | zero {s : Nat} : Chain b s 0 s
  | step {s j f : Nat} {p : Nat × Nat} : mvs b s = [p] → Chain b p.2 j f → Chain b s (j + 1) f
theorem ex_first {b : Book} (fb : FormB b) : ∀ (j s k : Nat), k ∈ exL b s (j + 1) ↔ ∃ p ∈ mvs b s, k ∈ exL b p.2 j
  | 0, s, k => by
    show k ∈ nextL b [s] ↔ ∃ p ∈ mvs b s, k ∈ [p.2]
    rw [mem_next fb]
    constructor
    · rintro ⟨x, hx, p, hp, e⟩
      rw [List.mem_singleton.mp hx] at hp
      exact ⟨p, hp, by simp [e]⟩
    · rintro ⟨p, hp, e⟩
      exact ⟨s, by simp, p, hp, (List.mem_singleton.mp e).symm⟩
  | j + 1, s, k => by
    show k ∈ nextL b (exL b s (j + 1)) ↔ ∃ p ∈ mvs b s, k ∈ nextL b (exL b p.2 j)
    rw [mem_next fb]
    constructor
    · rintro ⟨x, hx, r, hr, e⟩
      obtain ⟨p, hp, h⟩ := (ex_first fb j s x).mp hx
      exact ⟨p, hp, (mem_next fb).mpr ⟨x, h, r, hr, e⟩⟩
    · rintro ⟨p, hp, h⟩
      obtain ⟨x, hx, r, hr, e⟩ := (mem_next fb).mp h
      exact ⟨x, (ex_first fb j s x).mpr ⟨p, hp, hx⟩, r, hr, e⟩
theorem fork_iff {b : Book} {s : Nat} : s ∈ forksM b ↔ s < b.length ∧ 1 < (mvs b s).length := by
  unfold forksM
  rw [mem_filt, decide_eq_true_eq]
theorem chain_ex {b : Book} (fb : FormB b) : ∀ (j s : Nat), s < b.length → (∃ f ∈ exL b s j, f ∈ forksM b) → ∃ i f, i ≤ j ∧ f ∈ forksM b ∧ Chain b s i f
  | 0, s, _, ⟨f, hf, h⟩ => by
    rw [List.mem_singleton.mp hf] at h
    exact ⟨0, s, Nat.le_refl _, h, .zero⟩
  | j + 1, s, hs, ⟨f, hf, h⟩ => by
    by_cases hk : s ∈ forksM b
    · exact ⟨0, s, Nat.zero_le _, hk, .zero⟩
    · have h1 : ¬ 1 < (mvs b s).length := fun z => hk (fork_iff.mpr ⟨hs, z⟩)
      obtain ⟨p, hp, hf⟩ := (ex_first fb j s f).mp hf
      have e : mvs b s = [p] := by
        match hm : mvs b s, hp, h1 with
        | [x], hp, _ => rw [List.mem_singleton.mp hp]
        | x :: y :: r, _, h1 => exact absurd (by simp) h1
      obtain ⟨i, g, hi, hg, hc⟩ := chain_ex fb j p.2 (fb.to hp) ⟨f, hf, h⟩
      exact ⟨i + 1, g, by omega, hg, .step e hc⟩
theorem rch_rt {b : Book} {s : Nat} (h : Rch b s) : Rt b 0 s := by
  induction h with
  | zero => exact .refl 0
  | step _ hp ih => exact ih.step hp
theorem chain_fork {b : Book} (ok : OkB b) (h : forksM b ≠ []) : ∃ j f, j ≤ 7 ∧ f ∈ forksM b ∧ Chain b 0 j f := by
  have fb := ok.toFormB
  have h8 := fb.eight
  obtain ⟨f, hf⟩ := List.exists_mem_of_ne_nil _ h
  have hr := rt_wi fb fb.one (rch_rt (ok.reach f (forks_lt hf)))
  obtain ⟨j, hj, he⟩ := (wi_ex fb fb.one _ _).mp hr
  obtain ⟨i, g, hi, hg, hc⟩ := chain_ex fb j 0 fb.one ⟨f, he, hf⟩
  exact ⟨i, g, by omega, hg, hc⟩
def walkF (b : Book) : Nat → Nat → Nat
  | 0, s => s
  | n + 1, s => match mvs b s with
    | [p] => walkF b n p.2
    | _ => s
def firstF (b : Book) : Nat := walkF b 8 0
theorem chain_walk {b : Book} {s j f : Nat} (h : Chain b s j f) (hf : f ∈ forksM b) : ∀ n, j ≤ n → walkF b n s = f := by
  induction h with
  | @zero s =>
    intro n _
    have h2 := (fork_iff.mp hf).2
    cases n with
    | zero => rfl
    | succ n =>
      show (match mvs b s with | [p] => walkF b n p.2 | _ => s) = s
      match hm : mvs b s, h2 with
      | [x], h2 => simp at h2
      | [], h2 => rfl
      | x :: y :: r, _ => rfl
  | @step s j f p e _ ih =>
    intro n hn
    obtain ⟨n, rfl⟩ : ∃ m, n = m + 1 := ⟨n - 1, by omega⟩
    show (match mvs b s with | [p] => walkF b n p.2 | _ => s) = f
    rw [e]
    exact ih hf n (by omega)
theorem chain_first {b : Book} (ok : OkB b) (h : forksM b ≠ []) : ∃ j, j ≤ 7 ∧ firstF b ∈ forksM b ∧ Chain b 0 j (firstF b) := by
  obtain ⟨j, f, hj, hf, hc⟩ := chain_fork ok h
  have : firstF b = f := chain_walk hc hf 8 (by omega)
  rw [this]
  exact ⟨j, hj, hf, hc⟩
/-- the least number without answers -/
def countL (b : Book) : List Nat := (mvs b (firstF b)).map fun p => cM b 9 p.2
def freeM (b : Book) : Option Nat := if ringForksM b = [] then some (if 2 < (countL b).sum ∨ 2 ∈ countL b then 3 else 2) else none
def leastN (b : Book) : Option Nat := if mvs b 0 = [] then some 0 else if forksM b = [] then some 1 else freeM b
theorem most_two {l : List Nat} (h : ¬ 2 < l.sum) {m : Nat} (hm : m ∈ l) (hmax : ∀ y ∈ l, y ≤ m) : 1 < m ↔ 2 ∈ l := by
  have le : ∀ {l : List Nat} {x : Nat}, x ∈ l → x ≤ l.sum := by
    intro l x hx
    induction l with
    | nil => cases hx
    | cons y r ih =>
      rw [List.sum_cons]
      rcases List.mem_cons.mp hx with rfl | hx
      · omega
      · have := ih hx
        omega
  constructor
  · intro h1
    have := le hm
    have : m = 2 := by omega
    rw [← this]
    exact hm
  · intro h2
    have := hmax 2 h2
    omega
/-- the messages back, the law's -/
def backL (b : Book) (s : Nat) : List Nat := ((mvs b s).filter fun p => decide (s ∈ endsL b p.2 8)).map (·.1)
theorem back_ring {b : Book} (fb : FormB b) (s : Nat) : decide (backL b s = []) = !ringB b s := by
  have h : (backL b s).length = backM b s := by unfold backL backM; rw [List.length_map]
  have h2 := back_ways fb s
  unfold ringB
  by_cases e : backL b s = []
  · rw [decide_eq_true e]
    rw [e] at h
    have : waysM b s = 0 := by rw [← h2, ← h]; rfl
    rw [this]
    rfl
  · rw [decide_eq_false e]
    have := List.length_pos_iff.mpr e
    rw [decide_eq_true (by omega)]
    rfl
theorem mem_rings {b : Book} {s : Nat} (hs : s < b.length) : decide (s ∈ ringsM b) = ringB b s := by
  unfold ringB ringsM
  refine decide_eq_decide.mpr ?_
  rw [mem_filt, decide_eq_true_eq]
  exact ⟨fun h => h.2, fun h => ⟨hs, h⟩⟩
theorem rings_law {b : Book} (fb : FormB b) : (List.range b.length).filter (fun s => ringB b s && decide (1 < (mvs b s).length)) = ringForksM b := by
  unfold ringForksM forksM
  rw [List.filter_filter]
  refine List.filter_congr fun s hs => ?_
  rw [mem_rings (List.mem_range.mp hs)]
/-- a turn of the law's count -/
theorem c_turn (b : Book) (r s : Nat) : cM b (r + 1) s = if ringB b s = true then 1 else ((mvs b s).map fun p => cM b r p.2).sum := rfl
end Nv
set_option linter.all false
namespace Nv
open PySem PySem.Spec PyProof.Rows L2
/-! ### cut rows, by their length -/
def cutL (b : Book) : Nat → List (List Nat × Nat)
  | 0 => [([], 0)]
  | n + 1 => (((cutL b n).filter fun q => !ringB b q.2).map fun q => (mvs b q.2).map fun p => (q.1 ++ [p.1], p.2)).flatten
/-- those of up to so many messages less one -/
def cutA (b : Book) : Nat → List (List Nat × Nat)
  | 0 => []
  | n + 1 => cutA b n ++ cutL b n
theorem mem_cut {b : Book} {n : Nat} {x : List Nat × Nat} : x ∈ cutL b (n + 1) ↔ ∃ q ∈ cutL b n, ringB b q.2 = false ∧ ∃ p ∈ mvs b q.2, x = (q.1 ++ [p.1], p.2) := by
  show x ∈ ((((cutL b n).filter fun q => !ringB b q.2).map fun q => (mvs b q.2).map fun p => (q.1 ++ [p.1], p.2)).flatten) ↔ _
  rw [List.mem_flatten]
  constructor
  · rintro ⟨l, hl, hx⟩
    obtain ⟨q, hq, rfl⟩ := List.mem_map.mp hl
    obtain ⟨h1, h2⟩ := List.mem_filter.mp hq
    obtain ⟨p, hp, rfl⟩ := List.mem_map.mp hx
    exact ⟨q, h1, by simpa using h2, p, hp, rfl⟩
  · rintro ⟨q, hq, h2, p, hp, rfl⟩
    exact ⟨_, List.mem_map.mpr ⟨q, List.mem_filter.mpr ⟨hq, by simpa using h2⟩, rfl⟩, List.mem_map.mpr ⟨p, hp, rfl⟩⟩
theorem cut_lt {b : Book} (fb : FormB b) : ∀ n, ∀ q ∈ cutL b n, q.2 < b.length
  | 0, q, hq => by rw [List.mem_singleton.mp hq]; exact fb.one
  | n + 1, q, hq => by
    obtain ⟨x, _, _, p, hp, rfl⟩ := mem_cut.mp hq
    exact fb.to hp
theorem cut_row {b : Book} (fb : FormB b) : ∀ n, ∀ q ∈ cutL b n, (∀ m ∈ q.1, m ≤ 99) ∧ q.1.length = n
  | 0, q, hq => by rw [List.mem_singleton.mp hq]; exact ⟨fun m hm => (nomatch hm), rfl⟩
  | n + 1, q, hq => by
    obtain ⟨x, hx, _, p, hp, rfl⟩ := mem_cut.mp hq
    obtain ⟨h1, h2⟩ := cut_row fb n x hx
    have hs := cut_lt fb n x hx
    refine ⟨fun m hm => ?_, by simp [h2]⟩
    rcases List.mem_append.mp hm with hm | hm
    · exact h1 m hm
    · rw [List.mem_singleton.mp hm]
      exact (fb.ok hs).msg p hp
theorem cut_few {b : Book} (fb : FormB b) : ∀ n, ∀ q ∈ cutL b n, (nonR b q.2).length + n ≤ 8
  | 0, q, hq => by
    rw [List.mem_singleton.mp hq]
    have := nodup_le (nonR_nd b 0) fun k hk => ((mem_nonR fb fb.one).mp hk).1
    have := fb.eight
    show (nonR b 0).length + 0 ≤ 8
    omega
  | n + 1, q, hq => by
    obtain ⟨x, hx, hr, p, hp, rfl⟩ := mem_cut.mp hq
    have := cut_few fb n x hx
    have := nonR_lt fb (cut_lt fb n x hx) hr hp
    show (nonR b p.2).length + (n + 1) ≤ 8
    omega
theorem cut_nine {b : Book} (fb : FormB b) {n : Nat} (h : 9 ≤ n) : cutL b n = [] := by
  cases e : cutL b n with
  | nil => rfl
  | cons q r =>
    have := cut_few fb n q (by rw [e]; simp)
    omega
theorem cut_stop {b : Book} {n : Nat} (h : cutL b n = []) : ∀ m, n ≤ m → cutL b m = []
  | 0, hm => by
    have : n = 0 := by omega
    rw [this] at h
    exact h
  | m + 1, hm => by
    by_cases e : n = m + 1
    · rw [← e]; exact h
    · have := cut_stop h m (by omega)
      show (((cutL b m).filter fun q => !ringB b q.2).map fun q => (mvs b q.2).map fun p => (q.1 ++ [p.1], p.2)).flatten = []
      rw [this]
      rfl
theorem cutA_stop {b : Book} {n : Nat} (h : cutL b n = []) : ∀ m, n ≤ m → cutA b m = cutA b n
  | 0, hm => by
    have : n = 0 := by omega
    rw [this]
  | m + 1, hm => by
    by_cases e : n = m + 1
    · rw [e]
    · show cutA b m ++ cutL b m = _
      rw [cut_stop h m (by omega), List.append_nil]
      exact cutA_stop h m (by omega)
theorem cutA_mono {b : Book} : ∀ {n m : Nat}, n ≤ m → (cutA b n).length ≤ (cutA b m).length := by
  intro n m h
  induction m with
  | zero =>
    have : n = 0 := by omega
    rw [this]
    exact Nat.le_refl _
  | succ m ih =>
    by_cases e : n = m + 1
    · rw [e]; exact Nat.le_refl _
    · have := ih (by omega)
      show _ ≤ (cutA b m ++ cutL b m).length
      rw [List.length_append]
      omega
theorem cutA_mem {b : Book} : ∀ {n : Nat} {q : List Nat × Nat}, q ∈ cutA b n → ∃ k, k < n ∧ q ∈ cutL b k
  | 0, q, h => (nomatch h)
  | n + 1, q, h => by
    rcases List.mem_append.mp h with h | h
    · obtain ⟨k, hk, hq⟩ := cutA_mem h
      exact ⟨k, by omega, hq⟩
    · exact ⟨n, by omega, h⟩
theorem cut_next {b : Book} (fb : FormB b) (n : Nat) : (cutL b (n + 1)).length ≤ 5 * (cutL b n).length := by
  show ((((cutL b n).filter fun q => !ringB b q.2).map fun q => (mvs b q.2).map fun p => (q.1 ++ [p.1], p.2)).flatten).length ≤ _
  have : ∀ l : List (List Nat × Nat), ((l.map fun q => (mvs b q.2).map fun p => (q.1 ++ [p.1], p.2)).flatten).length ≤ 5 * l.length := by
    intro l
    induction l with
    | nil => simp
    | cons x r ih =>
      rw [List.map_cons, List.flatten_cons, List.length_append, List.length_map, List.length_cons]
      have : (mvs b x.2).length ≤ 5 := by
        by_cases hs : x.2 < b.length
        · exact (fb.ok hs).few
        · rw [mvs_out (by omega)]
          simp
      omega
  have h1 := this ((cutL b n).filter fun q => !ringB b q.2)
  have h2 := List.length_filter_le (fun q : List Nat × Nat => !ringB b q.2) (cutL b n)
  omega
/-- all of them -/
def cutR (b : Book) : List (List Nat × Nat) := cutA b 9
def manyC (b : Book) : Prop := 120 < (cutR b).length
theorem cutR_stop {b : Book} (fb : FormB b) {n : Nat} (h : cutL b n = []) : cutA b n = cutR b := by
  by_cases hn : n ≤ 9
  · exact (cutA_stop h 9 hn).symm
  · exact cutA_stop (cut_nine fb (Nat.le_refl 9)) n (by omega)
theorem cut_many {b : Book} (fb : FormB b) {n : Nat} (h : 120 < (cutA b n).length) : manyC b := by
  unfold manyC cutR
  by_cases hn : n ≤ 9
  · have := cutA_mono (b := b) hn
    omega
  · rw [cutA_stop (cut_nine fb (Nat.le_refl 9)) n (by omega)] at h
    exact h
/-! ### the row to the first fork -/
inductive ChainR (b : Book) : Nat → List Nat → Nat → Prop
  | zero {s : Nat} : ChainR b s [] s
  | step {s f : Nat} {r : List Nat} {p : Nat × Nat} : mvs b s = [p] → ChainR b p.2 r f → ChainR b s (p.1 :: r) f
theorem chain_row {b : Book} {s j f : Nat} (h : Chain b s j f) : ∃ r, ChainR b s r f ∧ r.length = j := by
  induction h with
  | zero => exact ⟨[], .zero, rfl⟩
  | step e _ ih =>
    obtain ⟨r, hr, hl⟩ := ih
    exact ⟨_, .step e hr, by rw [List.length_cons, hl]⟩
theorem at_rt {b : Book} : ∀ {r : List Nat} {s k : Nat}, atM b s r = some k → Rt b s k
  | [], s, k, h => by
    cases h
    exact .refl s
  | m :: r, s, k, h => by
    have h : (match nextM b s m with | some t => atM b t r | none => none) = some k := h
    cases hn : nextM b s m with
    | none => rw [hn] at h; cases h
    | some t =>
      rw [hn] at h
      obtain ⟨p, hp, _, rfl⟩ := next_some hn
      exact (Rt.one hp).trans (at_rt h)
theorem row_one {b : Book} (fb : FormB b) {s f : Nat} {r0 : List Nat} (h : ChainR b s r0 f) (hf : f ∈ forksM b) (hn : ringB b f = false) : ∀ {r : List Nat}, atM b s r = some f → r = r0 := by
  induction h with
  | @zero s =>
    intro r hr
    cases r with
    | nil => rfl
    | cons m r =>
      have hr : (match nextM b s m with | some t => atM b t r | none => none) = some s := hr
      cases hx : nextM b s m with
      | none => rw [hx] at hr; cases hr
      | some t =>
        rw [hx] at hr
        obtain ⟨p, hp, _, rfl⟩ := next_some hx
        rw [(ring_iff fb).mpr ⟨p, hp, at_rt hr⟩] at hn
        cases hn
  | @step s f r0 p e _ ih =>
    intro r hr
    cases r with
    | nil =>
      cases hr
      have := (fork_iff.mp hf).2
      rw [e] at this
      simp at this
    | cons m r =>
      have hr : (match nextM b s m with | some t => atM b t r | none => none) = some f := hr
      cases hx : nextM b s m with
      | none => rw [hx] at hr; cases hr
      | some t =>
        rw [hx] at hr
        obtain ⟨p', hp', rfl, rfl⟩ := next_some hx
        rw [e] at hp'
        rw [List.mem_singleton.mp hp'] at hr ⊢
        rw [ih hf hn hr]
theorem nofork_ring {b : Book} (fb : FormB b) (h : ringForksM b = []) {f : Nat} (hf : f ∈ forksM b) : ringB b f = false := by
  cases e : ringB b f with
  | false => rfl
  | true =>
    have : f ∈ ringForksM b := List.mem_filter.mpr ⟨hf, by rw [mem_rings (forks_lt hf)]; exact e⟩
    rw [h] at this
    cases this
theorem chain_nonring {b : Book} (fb : FormB b) {s f : Nat} {r : List Nat} (h : ChainR b s r f) (hn : ringB b f = false) : ringB b s = false := by
  induction h with
  | zero => exact hn
  | @step s f r p e hc ih =>
    have h1 := ih hn
    cases hs : ringB b s with
    | false => rfl
    | true =>
      exfalso
      obtain ⟨q, hq, hr⟩ := (ring_iff fb).mp hs
      rw [e] at hq
      rw [List.mem_singleton.mp hq] at hr
      -- p.2 leads back to s, so to p.2
      have : Rt b p.2 s := hr
      have back : ∃ q ∈ mvs b p.2, Rt b q.2 p.2 := by
        have key : ∀ {x y : Nat}, Rt b x y → x = y ∨ ∃ q ∈ mvs b x, Rt b q.2 y := by
          intro x y hxy
          induction hxy with
          | refl => exact .inl rfl
          | @step k p' hk hp' ih =>
            rcases ih with rfl | ⟨q, hq, hqk⟩
            · exact .inr ⟨p', hp', .refl _⟩
            · exact .inr ⟨q, hq, hqk.step hp'⟩
        rcases key this with e2 | ⟨q, hq, hqs⟩
        · refine ⟨p, ?_, ?_⟩
          · rw [e2, e]
            simp
          · exact .refl _
        · exact ⟨q, hq, hqs.step (by rw [e]; simp)⟩
      rw [(ring_iff fb).mpr back] at h1
      cases h1
/-- the cut rows up to the first fork -/
theorem cut_chain {b : Book} (fb : FormB b) : ∀ (r' : List Nat) (n : Nat) (r : List Nat) (s f : Nat), cutL b n = [(r, s)] → ChainR b s r' f → ringB b f = false → f ∈ forksM b →
    cutL b (n + r'.length) = [(r ++ r', f)] ∧ ∀ k, n ≤ k → k < n + r'.length → ∀ q ∈ cutL b k, ¬ 1 < (mvs b q.2).length
  | [], n, r, s, f, h, hc, hn, hf => by
    cases hc
    exact ⟨by simpa using h, fun k h1 h2 => by simp at h2; omega⟩
  | m :: r', n, r, s, f, h, hc, hn, hf => by
    cases hc with
    | @step _ _ _ p e hc =>
      have hs := chain_nonring fb (.step e hc) hn
      have h1 : cutL b (n + 1) = [(r ++ [p.1], p.2)] := by
        show (((cutL b n).filter fun q => !ringB b q.2).map fun q => (mvs b q.2).map fun p => (q.1 ++ [p.1], p.2)).flatten = _
        rw [h]
        simp [hs, e]
      obtain ⟨a, c⟩ := cut_chain fb r' (n + 1) _ _ f h1 hc hn hf
      have el : n + 1 + r'.length = n + (p.1 :: r').length := by rw [List.length_cons]; omega
      refine ⟨by rw [← el, a]; simp, fun k h2 h3 q hq => ?_⟩
      by_cases hk : k = n
      · subst hk
        rw [h] at hq
        rw [List.mem_singleton.mp hq, e]
        simp
      · exact c k (by omega) (by omega) q hq
theorem find_app {α : Type} {c : α → Bool} {l m : List α} (h : ∀ x ∈ l, c x = false) : (l ++ m).find? c = m.find? c := by
  rw [List.find?_append, find_nil h]
  rfl
theorem find_cut {b : Book} (n : Nat) : ∀ m, n ≤ m → ∃ rest, cutA b m = cutA b n ++ rest := by
  intro m
  induction m with
  | zero =>
    intro h
    have : n = 0 := by omega
    rw [this]
    exact ⟨[], by simp⟩
  | succ m ih =>
    intro h
    by_cases e : n = m + 1
    · exact ⟨[], by rw [e]; simp⟩
    · obtain ⟨rest, hr⟩ := ih (by omega)
      exact ⟨rest ++ cutL b m, by show cutA b m ++ cutL b m = _; rw [hr, List.append_assoc]⟩
/-- the first cut row that comes to a fork -/
theorem first_cut {b : Book} (ok : OkB b) (hne : forksM b ≠ []) (hr : ringForksM b = []) : ∃ r, ChainR b 0 r (firstF b) ∧ (cutR b).find? (fun q => decide (1 < (mvs b q.2).length)) = some (r, firstF b) := by
  have fb := ok.toFormB
  obtain ⟨j, hj, hf, hc⟩ := chain_first ok hne
  obtain ⟨r, hcr, hl⟩ := chain_row hc
  refine ⟨r, hcr, ?_⟩
  obtain ⟨h1, h2⟩ := cut_chain fb r 0 [] 0 (firstF b) rfl hcr (nofork_ring fb hr hf) hf
  rw [Nat.zero_add] at h1 h2
  rw [List.nil_append] at h1
  obtain ⟨rest, e⟩ := find_cut (b := b) (r.length + 1) 9 (by omega)
  unfold cutR
  rw [e]
  show ((cutA b r.length ++ cutL b r.length) ++ rest).find? _ = _
  rw [List.append_assoc, find_app]
  · rw [h1]
    rw [List.singleton_append, List.find?_cons, decide_eq_true (fork_iff.mp hf).2]
  · intro q hq
    obtain ⟨k, hk, hq⟩ := cutA_mem hq
    exact decide_eq_false (h2 k (Nat.zero_le _) hk q hq)
theorem no_cut {b : Book} (fb : FormB b) (h : forksM b = []) : (cutR b).find? (fun q => decide (1 < (mvs b q.2).length)) = none := by
  refine find_nil fun q hq => decide_eq_false fun z => ?_
  obtain ⟨k, _, hq⟩ := cutA_mem hq
  have : q.2 ∈ forksM b := fork_iff.mpr ⟨cut_lt fb k q hq, z⟩
  rw [h] at this
  cases this
/-- the first fork that is met -/
theorem met_first {b : Book} (ok : OkB b) {F : List Nat} (m : Met b F) {j0 f : Nat} (hc : Chain b 0 j0 f) : ∀ (n j s : Nat), j ≤ n → F[j]? = some s → (∃ i, i ≤ j ∧ F[i]? = some f) ∨ ∃ k, Chain b s (k + 1) f := by
  intro n
  induction n with
  | zero =>
    intro j s hj e
    have : j = 0 := by omega
    subst this
    rw [m.zero] at e
    cases e
    cases j0 with
    | zero =>
      cases hc
      exact .inl ⟨0, Nat.le_refl _, m.zero⟩
    | succ k => exact .inr ⟨k, hc⟩
  | succ n ih =>
    intro j s hj e
    by_cases h0 : j = 0
    · subst h0
      exact ih 0 s (Nat.zero_le _) e
    · obtain ⟨i, s', hi, hs', p, hp, rfl⟩ := m.from_ j s e h0
      rcases ih i s' (by omega) hs' with ⟨i', hi', h⟩ | ⟨k, hk⟩
      · exact .inl ⟨i', by omega, h⟩
      · cases hk with
        | @step _ _ _ p' e' hk =>
          rw [e'] at hp
          rw [List.mem_singleton.mp hp] at e ⊢
          cases k with
          | zero =>
            cases hk
            exact .inl ⟨j, Nat.le_refl _, e⟩
          | succ k => exact .inr ⟨k, hk⟩
theorem first_met {b : Book} (ok : OkB b) (hne : forksM b ≠ []) {F : List Nat} (m : Met b F) {j s : Nat} (h : F[j]? = some s) (hs : s ∈ forksM b) (hno : ∀ i t, i < j → F[i]? = some t → t ∉ forksM b) : s = firstF b := by
  obtain ⟨j0, _, hf, hc⟩ := chain_first ok hne
  rcases met_first ok m hc j j s (Nat.le_refl _) h with ⟨i, hi, e⟩ | ⟨k, hk⟩
  · by_cases hij : i = j
    · subst hij
      rw [h] at e
      exact Option.some.inj e
    · exact absurd hf (hno i _ (by omega) e)
  · generalize firstF b = f at hk
    cases hk with
    | step e _ =>
      have := (fork_iff.mp hs).2
      rw [e] at this
      simp at this
end Nv
set_option Elab.async false
set_option linter.all false
set_option maxRecDepth 100000
namespace Nv
open PySem PySem.Spec PyProof.Rows L2
section
variable {P : Program} {w : World} {K : PySem.W.Frag} {mg : Str → Option Value} {base : Heap}
/-! ### forks on rings -/
theorem sc_ring_states : FnScope ["book", "state"] ["book"] (defScope s_ring_states) := ⟨rfl, rfl, rfl, by decide +kernel, rfl, by decide +kernel, by decide +kernel⟩
def sp_ring_states (K : PySem.W.Frag) : Sp := fun vs H Q _ => ∃ (v : V) (b : Book), vs = [v] ∧ BkV K H v b ∧ FormB b ∧ ∀ (t : Addr) (H' : Hp), H' t = some (.lst ((ringsM b).map nV)) → Ext [] H H' → Q (.ref t) H'
theorem ok_ring_states (T : Tx K mg) : FnOk P w K mg base CX0 3 T.ring_states.f T.ring_states.fd ["book"] (sp_ring_states K) := by
  refine T.ring_states.F.ok sc_ring_states (fun vs H Q E h => ?_) (fun cdv A outer s H vs Q E hr h => ?_)
  · obtain ⟨v, b, rfl, _⟩ := h; rfl
  · obtain ⟨v, b, rfl, hb, fb, q⟩ := h
    obtain ⟨a, ls, rfl, ha, hls⟩ := id hb
    have llen := Paired.len hls
    have h8 := fb.eight
    refine ⟨_, (pss_one (ps_ret (pe_lc (own := [("state", 1)]) rfl sc_ring_states.nd (pi_range1 (by rfl) T.n_range (pa_cons (pe_callB call_len_seq (by rfl) T.n_len PySem.boot_len (pa_cons (pv 0) pa_nil)) pa_nil)) (blkOk_by (own := [("state", 1)]) (N := ["book", "state"]) (sc := defScope s_ring_states) (by decide +kernel)) (fun _ _ _ _ _ => (pg_name (i := 1) sc_ring_states.nd rfl (.inl rfl))) (fun _ _ _ _ _ => pts_one (pt_mid (pt_cmpR op_gt (pe_call (ok_ways_back T) (hr.mono (by decide)) (by rfl) T.ways_back.g T.ways_back.F.kp T.ways_back.b .nil pass0 (pa_cons (pv 0) (pa_cons (pv 1) pa_nil))) pe_int (nomark _)))) (fun _ _ _ _ _ => (pv 1))))), ?_⟩
    refine ⟨_, rfl, a, _, rfl, .inr ha, _, rfl, by omega, by omega, fun D hD => ?_⟩
    rw [forTo llen]
    refine filt_range (fun s => decide (0 < waysM b s)) hD (by omega) (fun v => rfl) (fun v => rfl) (fun k H' hk e => ?_) (fun H' h e => q D H' h e)
    refine ⟨_, rfl, _, rfl, .ref a, b, k, rfl, hb.ext0 e, fb, hk, fun H3 e3 => ⟨_, _, rfl, rfl, _, rfl, ?_, e3⟩⟩
    refine decide_eq_decide.mpr ?_
    omega
theorem sc_forks_on_rings : FnScope ["book", "ring", "state"] ["book"] (defScope s_forks_on_rings) := ⟨rfl, rfl, rfl, by decide +kernel, rfl, by decide +kernel, by decide +kernel⟩
def sp_forks_on_rings (K : PySem.W.Frag) : Sp := fun vs H Q _ => ∃ (v : V) (b : Book), vs = [v] ∧ BkV K H v b ∧ FormB b ∧ ∀ (t : Addr) (H' : Hp), SqT K H' t ((ringForksM b).map nV) → Ext [] H H' → Q (.ref t) H'
theorem ok_forks_on_rings (T : Tx K mg) : FnOk P w K mg base CX0 4 T.forks_on_rings.f T.forks_on_rings.fd ["book"] (sp_forks_on_rings K) := by
  refine T.forks_on_rings.F.ok sc_forks_on_rings (fun vs H Q E h => ?_) (fun cdv A outer s H vs Q E hr h => ?_)
  · obtain ⟨v, b, rfl, _⟩ := h; rfl
  · obtain ⟨v, b, rfl, hb, fb, q⟩ := h
    have h8 := fb.eight
    refine ⟨_, (pss_cons (ps_set (i := 1) sc_forks_on_rings.nd rfl (.inr rfl) (pe_call (ok_ring_states T) (hr.mono (by decide)) (by rfl) T.ring_states.g T.ring_states.F.kp T.ring_states.b .nil pass0 (pa_cons (pv 0) pa_nil)))
      (pss_one (ps_ret (pe_callTy call_tupZ (by rfl) T.n_tuple (by decide +kernel) (pa_cons (pe_lc (own := [("state", 2)]) rfl sc_forks_on_rings.nd (pi_tup (pe_call (ok_fork_states T) (hr.mono (by decide)) (by rfl) T.fork_states.g T.fork_states.F.kp T.fork_states.b .nil pass0 (pa_cons (pv 0) pa_nil))) (blkOk_by (own := [("state", 2)]) (N := ["book", "ring", "state"]) (sc := defScope s_forks_on_rings) (by decide +kernel)) (fun _ _ _ _ _ => (pg_name (i := 2) sc_forks_on_rings.nd rfl (.inl rfl))) (fun _ _ _ _ _ => pts_one (pt_mid (pt_cmpR (op_in_seqK K) (pv 2) (pv 1) (by rfl)))) (fun _ _ _ _ _ => (pv 2))) pa_nil))))), ?_⟩
    refine ⟨_, rfl, v, b, rfl, hb, fb, fun r H1 hR e1 => ?_⟩
    refine ⟨_, rfl, v, b, rfl, hb.ext0 e1, h8, fun t H2 ht e2 => ?_⟩
    refine ⟨t, rfl, ⟨_, ht⟩, fun D hD => ?_⟩
    have fl : (forksM b).length ≤ b.length := by
      unfold forksM
      refine Nat.le_trans (List.length_filter_le _ _) ?_
      rw [List.length_range]
      exact Nat.le_refl _
    refine filt_tup (K := K) (a := t) (l := forksM b) (fun k => decide (k ∈ ringsM b)) hD ht (by omega) (fun v => rfl) (fun v => rfl) (fun k H' hk e => ?_) (fun H' h e => ?_)
    · exact ⟨_, rfl, _, rfl, r, _, rfl, .inl (.of (e.at (e2.at hR (by simp)) (by simp))), rfl, flat_nV _, _, rfl, inV_nV _ _, .refl⟩
    · refine ⟨D, _, rfl, .of h, fun t2 H3 ht2 hH => ?_⟩
      obtain ⟨o, _, rfl⟩ := hH
      exact q t2 _ (.inl (.inr ⟨o, upd_same⟩)) (((e1.trans e2).trans e).put2 ht2)
theorem sc_ring_forks : FnScope ["book"] ["book"] (defScope s_ring_forks) := ⟨rfl, rfl, rfl, by decide +kernel, rfl, by decide +kernel, by decide +kernel⟩
def sp_ring_forks (K : PySem.W.Frag) : Sp := fun vs H Q _ => ∃ (v : V) (b : Book), vs = [v] ∧ BkV K H v b ∧ OkB b ∧ ∀ (t : Addr) (H' : Hp), SqT K H' t ((ringForksM b).map nV) → Ext [] H H' → Q (.ref t) H'
theorem ok_ring_forks (T : Tx K mg) : FnOk P w K mg base CX0 6 T.ring_forks.f T.ring_forks.fd ["book"] (sp_ring_forks K) := by
  refine T.ring_forks.F.ok sc_ring_forks (fun vs H Q E h => ?_) (fun cdv A outer s H vs Q E hr h => ?_)
  · obtain ⟨v, b, rfl, _⟩ := h; rfl
  · obtain ⟨v, b, rfl, hb, ok, q⟩ := h
    refine ⟨_, (pss_cons (ps_expr (pe_call (ok_made_book T) (hr.mono (by decide)) (by rfl) T.made_book.g T.made_book.F.kp T.made_book.b .nil pass0 (pa_cons (pv 0) pa_nil)))
      (pss_one (ps_ret (pe_call (ok_forks_on_rings T) (hr.mono (by decide)) (by rfl) T.forks_on_rings.g T.forks_on_rings.F.kp T.forks_on_rings.b .nil pass0 (pa_cons (pv 0) pa_nil))))), ?_⟩
    refine ⟨_, rfl, v, b, rfl, hb, ok, fun H1 e1 => ?_⟩
    exact ⟨_, rfl, v, b, rfl, hb.ext0 e1, ok.toFormB, fun t H2 ht e2 => q t H2 ht (e1.trans e2)⟩

theorem okX_ring_forks (T : Tx K mg) : FnOk P w K mg base (L2.CX P w) 6 T.ring_forks.f T.ring_forks.fd ["book"] (sp_refused K T.x_BadBook.C T.x_Stray.C) := by
  refine T.ring_forks.F.okX sc_ring_forks (fun vs H Q E h => ?_) (fun cdv A outer s H vs Q E hr h => ?_)
  · obtain ⟨v, d, C, e, rfl, _⟩ := h; rfl
  · obtain ⟨v, d, C, e, rfl, hd, href, q⟩ := h
    refine ⟨_, (pss_cons (ps_expr (pe_call (okX_made_book T) (hr.mono (by decide)) (by rfl) T.made_book.g T.made_book.F.kp T.made_book.b .nil (passes_call (takes_of rfl rfl rfl rfl) (fun _ _ _ _ h => h)) (pa_cons (pv 0) pa_nil)))
      (PSs.nox (pss_one (ps_ret (pe_call (ok_forks_on_rings T) (hr.mono (by decide)) (by rfl) T.forks_on_rings.g T.forks_on_rings.F.kp T.forks_on_rings.b .nil pass0 (pa_cons (pv 0) pa_nil)))))), ?_⟩
    exact ⟨_, rfl, v, d, C, e, rfl, hd, href, q⟩
end
end Nv
set_option Elab.async false
set_option linter.all false
set_option maxRecDepth 100000
namespace Nv
open PySem PySem.Spec PyProof.Rows L2
section
variable {P : Program} {w : World} {K : PySem.W.Frag} {mg : Str → Option Value} {base : Heap}
/-! ### what stays where lambdas are made -/
theorem Ext.tabs {L : List Addr} {H H' : Hp} {P : Addr} {q : Str} (e : Ext L H H') (hL : ∀ x ∈ L, ∀ o, H x = some o → (∃ xs, o = .lst xs)) (t : LamX.Tabs [(P, q)] H) : LamX.Tabs [(P, q)] H' := fun z hz => by
  rw [List.mem_singleton.mp hz]
  obtain ⟨ps, h1, h2, h3⟩ := t (P, q) (List.mem_singleton.mpr rfl)
  refine ⟨ps, e _ _ (fun z => ?_) h1, h2, fun pos cv hc => ?_⟩
  · obtain ⟨xs, e⟩ := hL _ z _ h1
    cases e
  · obtain ⟨c, e1, e2⟩ := h3 pos cv hc
    refine ⟨c, e1, e _ _ (fun z => ?_) e2⟩
    obtain ⟨xs, e⟩ := hL _ z _ e2
    cases e
theorem PoolAt.only {H : Hp} {p l : Addr} (h : PoolAt H p l) : ∀ x ∈ [p, l], ∀ o, H x = some o → (∃ xs, o = .lst xs) := by
  obtain ⟨_, x, y, ls, h1, h2, _⟩ := h
  intro z hz o ho
  rcases List.mem_cons.mp hz with rfl | hz
  · rw [h1] at ho
    cases ho
    exact ⟨_, rfl⟩
  · rw [List.mem_singleton.mp hz, h2] at ho
    cases ho
    exact ⟨_, rfl⟩
theorem PoolAt.extN {H H' : Hp} {p l : Addr} (h : PoolAt H p l) (e : LamX.ExtN H H') : PoolAt H' p l := by
  obtain ⟨n, x, y, ls, h1, h2, r⟩ := h
  exact ⟨n, x, y, ls, e _ _ h1 (fun ps z => nomatch z), e _ _ h2 (fun ps z => nomatch z), r⟩
theorem ext_toN {H H' : Hp} (e : Ext [] H H') : LamX.ExtN H H' := .of e.toSame
theorem fd_of {name : Str} {st : Stmt} {ps : List Str} (D : DefAt K mg name st ps) {fd' : FuncData} {oc : Value} {od : Option Addr} {osl : Array (Option Value)} (lk : K.lookup D.f = some ⟨oc, od, .func fd', osl⟩) : D.fd = fd' := by
  obtain ⟨oc', od', kV, doc, pm, an, cdv, ct, osl', hfd, lk', cd'⟩ := D.F.ex
  rw [lk] at lk'
  have h := Option.some.inj lk'
  injection h with h1 h2 h3 h4
  injection h3 with h3
  exact h3.symm
theorem cutDrop (xs : List V) : cutV xs (some 1) none = xs.drop 1 := by
  unfold cutV
  cases xs with
  | nil => simp
  | cons x r => simp [HT.sIx]
theorem dpAll_drop {K : PySem.W.Frag} {H : Hp} : ∀ {vs : List V} {ds : List PyData} (n : Nat), DpAll K H vs ds → DpAll K H (vs.drop n) (ds.drop n)
  | _, _, 0, h => h
  | _, _, n + 1, .nil => .nil
  | _, _, n + 1, .cons _ t => dpAll_drop n t
end
end Nv
set_option Elab.async false
set_option linter.all false
set_option maxRecDepth 100000
namespace Nv
open PySem PySem.Spec PyProof.Rows L2
section
variable {P : Program} {w : World} {K : PySem.W.Frag} {mg : Str → Option Value} {base : Heap}
/-! ### special messages, the arguments known -/
theorem sc_special_for : FnScope ["book", "window", "rank_of", "state", "rank", "high", "leading", "s"] ["book", "window", "rank_of", "state"] (defScope s_special_for) := ⟨rfl, rfl, rfl, by decide +kernel, rfl, by decide +kernel, by decide +kernel⟩
def sp_special_for (K : PySem.W.Frag) : Sp := fun vs H Q _ => ∃ (v : V) (b : Book) (W s : Nat) (t : Addr) (res : List (Option Int)) (fin : List Nat), vs = [v, .int W, .ref t, .int s] ∧ BkV K H v b ∧ FormB b ∧ 1 ≤ W ∧ s < b.length ∧ LastM b W res fin ∧ SqT K H t (res.map oV) ∧ ∀ (H' : Hp), Ext [] H H' → Q (oV (specM b W res s)) H'
theorem ok_special_for (T : Tx K mg) : FnOk P w K mg base CX0 5 T.special_for.f T.special_for.fd ["book", "window", "rank_of", "state"] (sp_special_for K) := by
  refine T.special_for.F.ok sc_special_for (fun vs H Q E h => ?_) (fun cdv A outer s H vs Q E hr h => ?_)
  · obtain ⟨v, b, W, s, t, res, fin, rfl, _⟩ := h; rfl
  · obtain ⟨v, b, W, st, t, res, fin, rfl, hb, fb, hW, hs, hL, ht, q⟩ := h
    have h8 := fb.eight
    refine ⟨_, (pss_cons (ps_set (i := 4) sc_special_for.nd rfl (.inr rfl) (pe_ix ix_tup (pv 2) (pv 3) (fun _ _ => rfl)))
      (pss_cons (ps_if (PW.pt (pw_or (pt_cmpR op_isN (pv 4) pe_non (nomark _)) (pw_or1 (pt_cmpR op_eq (pv 4) (pe_un un_neg pe_int) (nomark _)))))
        (pss_one (ps_ret pe_non))
        pss_nil)
      (pss_cons (ps_setLc (i := 5) (own := [("s", 7)]) rfl sc_special_for.nd rfl rfl (sw_true rfl rfl rfl (by decide +kernel)) (pi_tup (pe_call (ok_fork_states T) (hr.mono (by decide)) (by rfl) T.fork_states.g T.fork_states.F.kp T.fork_states.b .nil pass0 (pa_cons (pv 0) pa_nil))) (blkOk_by (own := [("s", 7)]) (N := ["book", "window", "rank_of", "state", "rank", "high", "leading", "s"]) (sc := defScope s_special_for) (by decide +kernel)) (fun _ _ _ _ _ => (pg_name (i := 7) sc_special_for.nd rfl (.inl rfl))) (fun _ _ _ _ _ => pts_one (pt_mid (PW.pt (pw_or (pt_cmpR op_eq (pe_ix (ix_tupK K) (pv 2) (pv 7) (fun _ _ => rfl)) (pe_un un_neg pe_int) (nomark _)) (pw_or1 (pt_cmpR op_ge (pe_ix (ix_tupK K) (pv 2) (pv 7) (fun _ _ => rfl)) (pv 4) (nomark _))))))) (fun _ _ _ _ _ => (pv 7)))
      (pss_cons (ps_set (i := 6) sc_special_for.nd rfl (.inl rfl) (pe_call (ok_leading_to T) (hr.mono (by decide)) (by rfl) T.leading_to.g T.leading_to.F.kp T.leading_to.b .nil pass0 (pa_cons (pv 0) (pa_cons (pv 3) (pa_cons (pv 1) (pa_cons (pv 5) pa_nil))))))
      (pss_cons (ps_if (pt_truth (pv 6) (by intro _; rfl))
        (pss_one (ps_ret (pe_ix ix_list (pv 6) pe_int (fun _ _ => rfl))))
        pss_nil)
      (pss_one (ps_ret (pe_ix ix_tup (pe_ix ix_tup (pe_ix ix_tup (pv 0) (pv 3) (fun _ _ => rfl)) pe_int (fun _ _ => rfl)) pe_int (fun _ _ => rfl))))))))), ?_⟩
    have q : ∀ H', LastM b W res fin → Ext [] H H' → Q (oV (specM b W res st)) H' := fun H' _ e => q H' e
    obtain ⟨H2, f2, eH2⟩ : ∃ H2, Ext [] H H2 ∧ H2 = H := ⟨H, .refl, rfl⟩
    rw [← eH2] at ht ⊢
    have rl := last_len hL
    obtain ⟨o, ho⟩ : ∃ o, res[st]? = some o := ⟨_, List.getElem?_eq_getElem (by omega)⟩
    refine ⟨_, rfl, _, rfl, t, _, _, _, rfl, rfl, ht, atI_nat (at_map ho), ?_⟩
    refine ⟨_, rfl, rfl, _, rfl, ?_⟩
    cases o with
    | none =>
      rw [decide_eq_true (show oV none = V.non from rfl)]
      refine iteT ?_
      have e : specM b W res st = none := by unfold specM; rw [ho]
      have q := q H2 hL f2
      rw [e] at q
      exact q
    | some r =>
      have r1 := (last_small fb hL r (List.mem_of_getElem? ho)).1
      rw [decide_eq_false (show ¬ oV (some r) = V.non from fun z => by cases z)]
      refine iteF ⟨_, rfl, 1, rfl, rfl, _, rfl, ?_⟩
      by_cases hr1 : r = -1
      · rw [decide_eq_true (show oV (some r) = V.int (-1) by rw [hr1]; rfl)]
        refine iteT ?_
        have e : specM b W res st = none := by
          unfold specM
          rw [ho]
          show (if r < 0 then none else findM b W res r st) = none
          rw [if_pos (by omega)]
        have q := q H2 hL f2
        rw [e] at q
        exact q
      · rw [decide_eq_false (show ¬ oV (some r) = V.int (-1) from fun z => hr1 (V.int.inj z))]
        refine iteF ?_
        have e : specM b W res st = findM b W res r st := by
          unfold specM
          rw [ho]
          show (if r < 0 then none else findM b W res r st) = _
          rw [if_neg (by omega)]
        rw [e] at q
        refine ⟨_, rfl, v, b, rfl, hb.ext0 f2, h8, fun tf H3 htf e3 => ?_⟩
        refine ⟨tf, rfl, ⟨_, htf⟩, fun D hD => ?_⟩
        have f3 := f2.trans e3
        have ht3 := e3.tup Lsts.nil ht
        have fl := forks_len b
        refine filt_tup (K := K) (a := tf) (l := forksM b) (hiB res r) hD htf (by omega) (fun v => rfl) (fun v => rfl) (fun k H' hk e => ?_) (fun H4 hD4 e4 => ?_)
        · have hkf := hk
          obtain ⟨x, hx⟩ : ∃ x, res[k]? = some (some x) := by
            have hkb := forks_lt hkf
            obtain ⟨o, ho⟩ : ∃ o, res[k]? = some o := ⟨_, List.getElem?_eq_getElem (by omega)⟩
            cases o with
            | none => exact absurd hkf ((last_none hL k).mp ho).2
            | some x => exact ⟨x, ho⟩
          have x1 := (last_small fb hL x (List.mem_of_getElem? hx)).1
          have eh : hiB res r k = (decide (x < 0) || decide (r ≤ x)) := by unfold hiB; rw [hx]
          refine ⟨_, rfl, _, rfl, t, _, _, _, rfl, rfl, e.tup Lsts.nil ht3, atI_nat (at_map hx), 1, rfl, rfl, _, rfl, ?_⟩
          by_cases hx1 : x = -1
          · rw [decide_eq_true (show oV (some x) = V.int (-1) by rw [hx1]; rfl)]
            refine iteT ⟨?_, .refl⟩
            rw [eh, decide_eq_true (show x < 0 by omega)]
            rfl
          · rw [decide_eq_false (show ¬ oV (some x) = V.int (-1) from fun z => hx1 (V.int.inj z))]
            refine iteF ⟨_, rfl, _, rfl, t, _, _, _, rfl, rfl, e.tup Lsts.nil ht3, atI_nat (at_map hx), _, rfl, _, _, rfl, rfl, _, rfl, ?_, .refl⟩
            rw [eh, decide_eq_false (show ¬ x < 0 by omega), Bool.false_or]
        · have f4 := f3.trans e4
          refine ⟨_, rfl, _, rfl, _, rfl, _, rfl, v, b, st, W, D, highM b res r, rfl, hb.ext0 f4, fb, hs, hW, .of hD4, fun tl H5 htl e5 => ?_⟩
          have f5 := f4.trans e5
          refine ⟨_, rfl, _, .inl ⟨_, .of htl, rfl⟩, ?_⟩
          cases hl : leadM b W st (highM b res r) with
          | nil =>
            rw [hl] at htl
            refine iteF ?_
            obtain ⟨p, l, hm, hf⟩ := fork_first hL ho
            rw [lead_none fb hL hl, hf] at q
            obtain ⟨a, ls, rfl, ha, hls⟩ := hb.ext0 f5
            obtain ⟨u, hu, c, ps, rfl, hc, hps⟩ := Paired.get hls (mvs_lt hs)
            rw [hm] at hps
            cases hps with
            | @cons g _ gs _ hg hgs =>
              exact ⟨_, rfl, _, rfl, a, _, _, _, rfl, rfl, ha, atI_nat hu, c, _, _, _, rfl, rfl, hc.sq, atI_nat (j := 0) rfl, g, _, _, _, rfl, rfl, hg, atI_nat (j := 0) rfl, q H5 hL f5⟩
          | cons m l =>
            rw [hl] at htl
            refine iteT ?_
            rw [lead_some fb hL hl] at q
            exact ⟨_, rfl, tl, _, _, _, rfl, rfl, .of htl, atI_nat (j := 0) rfl, q H5 hL f5⟩
end
end Nv
set_option Elab.async false
set_option linter.all false
set_option maxRecDepth 100000
namespace Nv
open PySem PySem.Spec PyProof.Rows L2
section
variable {P : Program} {w : World} {K : PySem.W.Frag} {mg : Str → Option Value} {base : Heap}
/-! ### windows and states that are none -/
def OutsV (H : Hp) (E : XK) (C : Addr) (v : V) : Prop := ∀ dx H', H dx = none → XdAt H' dx v → Ext [] H H' → E (.ref C) (some dx) H'
theorem OutsV.ext {H H' : Hp} {E : XK} {C : Addr} {v : V} (h : OutsV H E C v) (e : Ext [] H H') : OutsV H' E C v := fun dx H2 n z x => h dx H2 (e.free n) z (e.trans x)
/-- a window, or None -/
def winD : PyData → Bool
  | .none => true
  | .int i => decide (1 ≤ i)
  | _ => false
/-- a window that is a number -/
def numD : PyData → Bool
  | .int i => decide (1 ≤ i)
  | _ => false
theorem iteNon {A B : Prop} (h : B) : if (!decide (V.non = V.non)) = true then A else B := by
  rw [decide_eq_true rfl]
  exact h

def sp_made_windowA : Sp := fun vs H Q _ => ∃ v : V, vs = [v] ∧ (v = .non ∨ ∃ i : Int, v = .int i ∧ 1 ≤ i) ∧ Q v H
theorem okA_made_window (T : Tx K mg) : FnOk P w K mg base CX0 2 T.made_window.f T.made_window.fd ["thing"] sp_made_windowA := by
  refine T.made_window.F.ok sc_made_window (fun vs H Q E h => ?_) (fun cdv A outer s H vs Q E hr h => ?_)
  · obtain ⟨W, rfl, _⟩ := h; rfl
  · obtain ⟨v, rfl, hv, q⟩ := h
    refine ⟨_, (pss_cons (ps_if (PW.pt (pw_and (pt_cmpR op_notN (pv 0) pe_non (nomark _)) (pw_and1 (PW.pt (pw_or (pt_not (pt_val (pe_call (ok_whole T) (hr.mono (by decide)) (by rfl) T.whole.g T.whole.F.kp T.whole.b .nil pass0 (pa_cons (pv 0) pa_nil)))) (pw_or1 (pt_cmpR op_lt (pv 0) pe_int (nomark _))))))))
        (pss_one ps_never)
        pss_nil)
      (pss_one (ps_ret (pv 0)))), ?_⟩
    rcases hv with rfl | ⟨i, rfl, hW⟩
    · exact ⟨_, rfl, rfl, _, rfl, iteNon (iteF ⟨_, rfl, q⟩)⟩
    · refine ⟨_, rfl, rfl, _, rfl, iteNS' (by intro z; cases z) ?_⟩
      refine ⟨_, rfl, _, rfl, _, rfl, notF rfl ⟨_, rfl, _, _, rfl, rfl, _, rfl, ?_⟩⟩
      rw [decide_eq_false (by omega)]
      exact iteF ⟨_, rfl, q⟩
def sp_made_windowX (K : PySem.W.Frag) (C : Addr) : Sp := fun vs H Q E => ∃ (v : V) (d : PyData), vs = [v] ∧ Dp K H v d ∧ (winD d = true → Q v H) ∧ (winD d = false → OutsV H E C (.int 0))
theorem okX_made_window (T : Tx K mg) : FnOk P w K mg base (L2.CX P w) 3 T.made_window.f T.made_window.fd ["thing"] (sp_made_windowX K T.x_BadWindow.C) := by
  refine T.made_window.F.okX sc_made_window (fun vs H Q E h => ?_) (fun cdv A outer s H vs Q E hr h => ?_)
  · obtain ⟨v, d, rfl, _⟩ := h; rfl
  · obtain ⟨v, d, rfl, hd, q, qe⟩ := h
    refine ⟨_, (pss_cons (ps_if (PW.pt (pw_and (pt_cmpR op_notN (pv 0) pe_non (nomark _)) (pw_and1 (PW.pt (pw_or (pt_not (pt_val (pe_call (okD_whole T) (hr.mono (by decide)) (by rfl) T.whole.g T.whole.F.kp T.whole.b .nil pass0 (pa_cons (pv 0) pa_nil)))) (pw_or1 (pt_cmpR op_lt (pv 0) pe_int (nomark _))))))))
        (pss_one (ps_raise rfl (takes_of rfl rfl rfl rfl) (pmk_X T.x_BadWindow T.init.ti (ok_init T) (hr.mono (by decide)) T.init.b (by rfl) pe_int)))
        pss_nil)
      (PSs.nox (pss_one (ps_ret (pv 0))))), ?_⟩
    have rs : winD d = false → ∀ dx, H dx = none → E (.ref T.x_BadWindow.C) (some dx) (upd H dx (xdW "BadWindow" (.int 0))) := fun h dx nd => qe h dx _ nd ⟨_, upd_same⟩ (.new nd)
    cases hd with
    | non => exact ⟨_, rfl, rfl, _, rfl, iteNon (iteF ⟨_, rfl, q rfl⟩)⟩
    | int i =>
      refine ⟨_, rfl, rfl, _, rfl, iteNS' (by intro z; cases z) ?_⟩
      refine ⟨_, rfl, _, .int i, rfl, .int i, _, rfl, notF rfl ⟨_, rfl, _, _, rfl, rfl, _, rfl, ?_⟩⟩
      by_cases h : i < 1
      · rw [decide_eq_true h]
        exact iteT (rs (decide_eq_false (by omega)))
      · rw [decide_eq_false h]
        exact iteF ⟨_, rfl, q (decide_eq_true (by omega))⟩
    | bl b => exact ⟨_, rfl, rfl, _, rfl, iteNS' (by intro z; cases z) ⟨_, rfl, _, .bool b, rfl, .bl b, _, rfl, iteT (rs rfl)⟩⟩
    | str x => exact ⟨_, rfl, rfl, _, rfl, iteNS' (by intro z; cases z) ⟨_, rfl, _, .str x, rfl, .str x, _, rfl, iteT (rs rfl)⟩⟩
    | lst h1 h2 => exact ⟨_, rfl, rfl, _, rfl, iteNS' (by intro z; cases z) ⟨_, rfl, _, _, rfl, .lst h1 h2, _, rfl, iteT (rs rfl)⟩⟩
    | tup h1 h2 => exact ⟨_, rfl, rfl, _, rfl, iteNS' (by intro z; cases z) ⟨_, rfl, _, _, rfl, .tup h1 h2, _, rfl, iteT (rs rfl)⟩⟩

def sp_check_numberX (K : PySem.W.Frag) (C : Addr) : Sp := fun vs H _ E => ∃ (v : V) (d : PyData), vs = [v] ∧ Dp K H v d ∧ numD d = false ∧ OutsV H E C (.int 0)
theorem okX_check_number (T : Tx K mg) : FnOk P w K mg base (L2.CX P w) 4 T.check_number.f T.check_number.fd ["window"] (sp_check_numberX K T.x_BadWindow.C) := by
  refine T.check_number.F.okX sc_check_number (fun vs H Q E h => ?_) (fun cdv A outer s H vs Q E hr h => ?_)
  · obtain ⟨v, d, rfl, _⟩ := h; rfl
  · obtain ⟨v, d, rfl, hd, hn, qe⟩ := h
    refine ⟨_, (pss_one (ps_if (pt_cmpR op_isN (pe_call (okX_made_window T) (hr.mono (by decide)) (by rfl) T.made_window.g T.made_window.F.kp T.made_window.b .nil (passes_call (takes_of rfl rfl rfl rfl) (fun _ _ _ _ h => h)) (pa_cons (pv 0) pa_nil)) pe_non (nomark _))
        (pss_one (ps_raise rfl (takes_of rfl rfl rfl rfl) (pmk_X T.x_BadWindow T.init.ti (ok_init T) (hr.mono (by decide)) T.init.b (by rfl) pe_int)))
        pss_nil)), ?_⟩
    refine ⟨_, rfl, v, d, rfl, hd, fun hw => ?_, fun _ => qe⟩
    cases hd with
    | non => exact ⟨rfl, _, rfl, fun dx nd => qe dx _ nd ⟨_, upd_same⟩ (.new nd)⟩
    | int i => rw [show winD (.int i) = numD (.int i) from rfl, hn] at hw; cases hw
    | bl b => cases hw
    | str x => cases hw
    | lst h1 h2 => cases hw
    | tup h1 h2 => cases hw
theorem sc_check_state : FnScope ["book", "state"] ["book", "state"] (defScope s_check_state) := ⟨rfl, rfl, rfl, by decide +kernel, rfl, by decide +kernel, by decide +kernel⟩
def sp_check_state (K : PySem.W.Frag) : Sp := fun vs H Q _ => ∃ (v : V) (b : Book) (s : Nat), vs = [v, .int s] ∧ BkV K H v b ∧ s < b.length ∧ Q .non H
theorem ok_check_state (T : Tx K mg) : FnOk P w K mg base CX0 3 T.check_state.f T.check_state.fd ["book", "state"] (sp_check_state K) := by
  refine T.check_state.F.ok sc_check_state (fun vs H Q E h => ?_) (fun cdv A outer s H vs Q E hr h => ?_)
  · obtain ⟨v, b, s, rfl, _⟩ := h; rfl
  · obtain ⟨v, b, s, rfl, ⟨a, ls, rfl, ha, hls⟩, hs, q⟩ := h
    have llen := Paired.len hls
    refine ⟨_, (pss_one (ps_if (pt_not (pt_val (pe_call (ok_whole_within T) (hr.mono (by decide)) (by rfl) T.whole_within.g T.whole_within.F.kp T.whole_within.b .nil pass0 (pa_cons (pv 1) (pa_cons pe_int (pa_cons (pe_op op_sub (pe_callB call_len_seq (by rfl) T.n_len PySem.boot_len (pa_cons (pv 0) pa_nil)) pe_int) pa_nil))))))
        (pss_one ps_never)
        pss_nil)), ?_⟩
    refine ⟨_, rfl, _, rfl, a, _, rfl, .inr ha, _, _, rfl, rfl, s, 0, _, rfl, _, rfl, ?_⟩
    exact notF (decide_eq_true ⟨by omega, by omega⟩) q
def sp_check_stateX (K : PySem.W.Frag) (C : Addr) : Sp := fun vs H _ E => ∃ (v u : V) (b : Book) (d : PyData), vs = [v, u] ∧ BkV K H v b ∧ Dp K H u d ∧ inD d 0 ((b.length : Int) - 1) = false ∧ OutsV H E C u
theorem okX_check_state (T : Tx K mg) : FnOk P w K mg base (L2.CX P w) 3 T.check_state.f T.check_state.fd ["book", "state"] (sp_check_stateX K T.x_BadState.C) := by
  refine T.check_state.F.okX sc_check_state (fun vs H Q E h => ?_) (fun cdv A outer s H vs Q E hr h => ?_)
  · obtain ⟨v, u, b, d, rfl, _⟩ := h; rfl
  · obtain ⟨v, u, b, d, rfl, ⟨a, ls, rfl, ha, hls⟩, hd, hi, qe⟩ := h
    have llen := Paired.len hls
    refine ⟨_, (pss_one (ps_if (pt_not (pt_val (pe_call (okD_whole_within T) (hr.mono (by decide)) (by rfl) T.whole_within.g T.whole_within.F.kp T.whole_within.b .nil pass0 (pa_cons (pv 1) (pa_cons pe_int (pa_cons (pe_op op_sub (pe_callB call_len_seq (by rfl) T.n_len PySem.boot_len (pa_cons (pv 0) pa_nil)) pe_int) pa_nil))))))
        (pss_one (ps_raise rfl (takes_of rfl rfl rfl rfl) (pmk_X T.x_BadState T.init.ti (ok_init T) (hr.mono (by decide)) T.init.b (by rfl) (pv 1))))
        pss_nil)), ?_⟩
    refine ⟨_, rfl, _, rfl, a, _, rfl, .inr ha, _, _, rfl, rfl, u, d, 0, _, rfl, hd, _, rfl, ?_⟩
    rw [llen, hi]
    exact iteT ⟨_, rfl, fun dx nd => qe dx _ nd ⟨_, upd_same⟩ (.new nd)⟩
/-- no book, or no window -/
def RefBW (K : PySem.W.Frag) (CB CS CW : Addr) (H : Hp) (E : XK) (v u : V) : Prop := (∃ (d : PyData) (C : Addr) (e : Int), Dp K H v d ∧ Ref CB CS d C e ∧ Outs H E C e) ∨ (∃ (b : Book) (d : PyData), BkV K H v b ∧ OkB b ∧ Dp K H u d ∧ numD d = false ∧ OutsV H E CW (.int 0))
def sp_winX (K : PySem.W.Frag) (CB CS CW : Addr) : Sp := fun vs H _ E => ∃ (v u : V), vs = [v, u] ∧ RefBW K CB CS CW H E v u

theorem okX_ranks (T : Tx K mg) : FnOk P w K mg base (L2.CX P w) 6 T.ranks.f T.ranks.fd ["book", "window"] (sp_winX K T.x_BadBook.C T.x_Stray.C T.x_BadWindow.C) := by
  refine T.ranks.F.okX sc_ranks (fun vs H Q E h => ?_) (fun cdv A outer s H vs Q E hr h => ?_)
  · obtain ⟨v, u, rfl, _⟩ := h; rfl
  · obtain ⟨v, u, rfl, ⟨d, C, e, hd, href, q⟩ | ⟨b, d, hb, ok, hd, hn, q⟩⟩ := h
    · refine ⟨_, (pss_cons (ps_expr (pe_call (okX_made_book T) (hr.mono (by decide)) (by rfl) T.made_book.g T.made_book.F.kp T.made_book.b .nil (passes_call (takes_of rfl rfl rfl rfl) (fun _ _ _ _ h => h)) (pa_cons (pv 0) pa_nil)))
      (PSs.nox (pss_cons (ps_expr (pe_call (ok_check_number T) (hr.mono (by decide)) (by rfl) T.check_number.g T.check_number.F.kp T.check_number.b .nil pass0 (pa_cons (pv 1) pa_nil)))
      (pss_one (ps_ret (pe_call (ok_ranks_for T) (hr.mono (by decide)) (by rfl) T.ranks_for.g T.ranks_for.F.kp T.ranks_for.b .nil pass0 (pa_cons (pv 0) (pa_cons (pv 1) pa_nil)))))))), ?_⟩
      exact ⟨_, rfl, v, d, C, e, rfl, hd, href, q⟩
    · refine ⟨_, (pss_cons (ps_expr (pe_call (ok_made_book T) (hr.mono (by decide)) (by rfl) T.made_book.g T.made_book.F.kp T.made_book.b .nil pass0 (pa_cons (pv 0) pa_nil)))
      (pss_cons (ps_expr (pe_call (okX_check_number T) (hr.mono (by decide)) (by rfl) T.check_number.g T.check_number.F.kp T.check_number.b .nil (passes_call (takes_of rfl rfl rfl rfl) (fun _ _ _ _ h => h)) (pa_cons (pv 1) pa_nil)))
      (PSs.nox (pss_one (ps_ret (pe_call (ok_ranks_for T) (hr.mono (by decide)) (by rfl) T.ranks_for.g T.ranks_for.F.kp T.ranks_for.b .nil pass0 (pa_cons (pv 0) (pa_cons (pv 1) pa_nil)))))))), ?_⟩
      exact ⟨_, rfl, v, b, rfl, hb, ok, fun H1 e1 => ⟨_, rfl, u, d, rfl, Dp.ext0 e1 hd, hn, q.ext e1⟩⟩

theorem okX_lasting (T : Tx K mg) : FnOk P w K mg base (L2.CX P w) 6 T.lasting.f T.lasting.fd ["book", "window"] (sp_winX K T.x_BadBook.C T.x_Stray.C T.x_BadWindow.C) := by
  refine T.lasting.F.okX sc_lasting (fun vs H Q E h => ?_) (fun cdv A outer s H vs Q E hr h => ?_)
  · obtain ⟨v, u, rfl, _⟩ := h; rfl
  · obtain ⟨v, u, rfl, ⟨d, C, e, hd, href, q⟩ | ⟨b, d, hb, ok, hd, hn, q⟩⟩ := h
    · refine ⟨_, (pss_cons (ps_expr (pe_call (okX_made_book T) (hr.mono (by decide)) (by rfl) T.made_book.g T.made_book.F.kp T.made_book.b .nil (passes_call (takes_of rfl rfl rfl rfl) (fun _ _ _ _ h => h)) (pa_cons (pv 0) pa_nil)))
      (PSs.nox (pss_cons (ps_expr (pe_call (ok_check_number T) (hr.mono (by decide)) (by rfl) T.check_number.g T.check_number.F.kp T.check_number.b .nil pass0 (pa_cons (pv 1) pa_nil)))
      (pss_one (ps_ret (pe_call (ok_lasting_for T) (hr.mono (by decide)) (by rfl) T.lasting_for.g T.lasting_for.F.kp T.lasting_for.b .nil pass0 (pa_cons (pv 0) (pa_cons (pv 1) pa_nil)))))))), ?_⟩
      exact ⟨_, rfl, v, d, C, e, rfl, hd, href, q⟩
    · refine ⟨_, (pss_cons (ps_expr (pe_call (ok_made_book T) (hr.mono (by decide)) (by rfl) T.made_book.g T.made_book.F.kp T.made_book.b .nil pass0 (pa_cons (pv 0) pa_nil)))
      (pss_cons (ps_expr (pe_call (okX_check_number T) (hr.mono (by decide)) (by rfl) T.check_number.g T.check_number.F.kp T.check_number.b .nil (passes_call (takes_of rfl rfl rfl rfl) (fun _ _ _ _ h => h)) (pa_cons (pv 1) pa_nil)))
      (PSs.nox (pss_one (ps_ret (pe_call (ok_lasting_for T) (hr.mono (by decide)) (by rfl) T.lasting_for.g T.lasting_for.F.kp T.lasting_for.b .nil pass0 (pa_cons (pv 0) (pa_cons (pv 1) pa_nil)))))))), ?_⟩
      exact ⟨_, rfl, v, b, rfl, hb, ok, fun H1 e1 => ⟨_, rfl, u, d, rfl, Dp.ext0 e1 hd, hn, q.ext e1⟩⟩
theorem sc_special : FnScope ["book", "window", "state"] ["book", "window", "state"] (defScope s_special) := ⟨rfl, rfl, rfl, by decide +kernel, rfl, by decide +kernel, by decide +kernel⟩
def sp_specialX (K : PySem.W.Frag) (CB CS CW CT : Addr) : Sp := fun vs H _ E => ∃ (v u x : V), vs = [v, u, x] ∧ (RefBW K CB CS CW H E v u ∨ ∃ (b : Book) (W : Nat) (d : PyData), BkV K H v b ∧ OkB b ∧ u = .int W ∧ 1 ≤ W ∧ Dp K H x d ∧ inD d 0 ((b.length : Int) - 1) = false ∧ OutsV H E CT x)
theorem okX_special (T : Tx K mg) : FnOk P w K mg base (L2.CX P w) 6 T.special.f T.special.fd ["book", "window", "state"] (sp_specialX K T.x_BadBook.C T.x_Stray.C T.x_BadWindow.C T.x_BadState.C) := by
  refine T.special.F.okX sc_special (fun vs H Q E h => ?_) (fun cdv A outer s H vs Q E hr h => ?_)
  · obtain ⟨v, u, x, rfl, _⟩ := h; rfl
  · obtain ⟨v, u, x, rfl, (⟨d, C, e, hd, href, q⟩ | ⟨b, d, hb, ok, hd, hn, q⟩) | ⟨b, W, d, hb, ok, rfl, hW, hd, hn, q⟩⟩ := h
    · refine ⟨_, (pss_cons (ps_expr (pe_call (okX_made_book T) (hr.mono (by decide)) (by rfl) T.made_book.g T.made_book.F.kp T.made_book.b .nil (passes_call (takes_of rfl rfl rfl rfl) (fun _ _ _ _ h => h)) (pa_cons (pv 0) pa_nil)))
      (PSs.nox (pss_cons (ps_expr (pe_call (ok_check_number T) (hr.mono (by decide)) (by rfl) T.check_number.g T.check_number.F.kp T.check_number.b .nil pass0 (pa_cons (pv 1) pa_nil)))
      (pss_cons (ps_expr (pe_call (ok_check_state T) (hr.mono (by decide)) (by rfl) T.check_state.g T.check_state.F.kp T.check_state.b .nil pass0 (pa_cons (pv 0) (pa_cons (pv 2) pa_nil))))
      (pss_one (ps_ret (pe_call (ok_special_for T) (hr.mono (by decide)) (by rfl) T.special_for.g T.special_for.F.kp T.special_for.b .nil pass0 (pa_cons (pv 0) (pa_cons (pv 1) (pa_cons (pe_call (ok_ranks_for T) (hr.mono (by decide)) (by rfl) T.ranks_for.g T.ranks_for.F.kp T.ranks_for.b .nil pass0 (pa_cons (pv 0) (pa_cons (pv 1) pa_nil))) (pa_cons (pv 2) pa_nil))))))))))), ?_⟩
      exact ⟨_, rfl, v, d, C, e, rfl, hd, href, q⟩
    · refine ⟨_, (pss_cons (ps_expr (pe_call (ok_made_book T) (hr.mono (by decide)) (by rfl) T.made_book.g T.made_book.F.kp T.made_book.b .nil pass0 (pa_cons (pv 0) pa_nil)))
      (pss_cons (ps_expr (pe_call (okX_check_number T) (hr.mono (by decide)) (by rfl) T.check_number.g T.check_number.F.kp T.check_number.b .nil (passes_call (takes_of rfl rfl rfl rfl) (fun _ _ _ _ h => h)) (pa_cons (pv 1) pa_nil)))
      (PSs.nox (pss_cons (ps_expr (pe_call (ok_check_state T) (hr.mono (by decide)) (by rfl) T.check_state.g T.check_state.F.kp T.check_state.b .nil pass0 (pa_cons (pv 0) (pa_cons (pv 2) pa_nil))))
      (pss_one (ps_ret (pe_call (ok_special_for T) (hr.mono (by decide)) (by rfl) T.special_for.g T.special_for.F.kp T.special_for.b .nil pass0 (pa_cons (pv 0) (pa_cons (pv 1) (pa_cons (pe_call (ok_ranks_for T) (hr.mono (by decide)) (by rfl) T.ranks_for.g T.ranks_for.F.kp T.ranks_for.b .nil pass0 (pa_cons (pv 0) (pa_cons (pv 1) pa_nil))) (pa_cons (pv 2) pa_nil))))))))))), ?_⟩
      exact ⟨_, rfl, v, b, rfl, hb, ok, fun H1 e1 => ⟨_, rfl, u, d, rfl, Dp.ext0 e1 hd, hn, q.ext e1⟩⟩
    · refine ⟨_, (pss_cons (ps_expr (pe_call (ok_made_book T) (hr.mono (by decide)) (by rfl) T.made_book.g T.made_book.F.kp T.made_book.b .nil pass0 (pa_cons (pv 0) pa_nil)))
      (pss_cons (ps_expr (pe_call (ok_check_number T) (hr.mono (by decide)) (by rfl) T.check_number.g T.check_number.F.kp T.check_number.b .nil pass0 (pa_cons (pv 1) pa_nil)))
      (pss_cons (ps_expr (pe_call (okX_check_state T) (hr.mono (by decide)) (by rfl) T.check_state.g T.check_state.F.kp T.check_state.b .nil (passes_call (takes_of rfl rfl rfl rfl) (fun _ _ _ _ h => h)) (pa_cons (pv 0) (pa_cons (pv 2) pa_nil))))
      (PSs.nox (pss_one (ps_ret (pe_call (ok_special_for T) (hr.mono (by decide)) (by rfl) T.special_for.g T.special_for.F.kp T.special_for.b .nil pass0 (pa_cons (pv 0) (pa_cons (pv 1) (pa_cons (pe_call (ok_ranks_for T) (hr.mono (by decide)) (by rfl) T.ranks_for.g T.ranks_for.F.kp T.ranks_for.b .nil pass0 (pa_cons (pv 0) (pa_cons (pv 1) pa_nil))) (pa_cons (pv 2) pa_nil))))))))))), ?_⟩
      exact ⟨_, rfl, v, b, rfl, hb, ok, fun H1 e1 => ⟨_, rfl, W, rfl, hW, _, rfl, _, rfl, v, x, b, d, rfl, hb.ext0 e1, Dp.ext0 e1 hd, hn, q.ext e1⟩⟩
end
end Nv
set_option Elab.async false
set_option linter.all false
set_option maxRecDepth 100000
namespace Nv
open PySem PySem.Spec PyProof.Rows L2
section
variable {P : Program} {w : World} {K : PySem.W.Frag} {mg : Str → Option Value} {base : Heap}
/-! ### special messages -/

def sp_special (K : PySem.W.Frag) : Sp := fun vs H Q _ => ∃ (v : V) (b : Book) (W s : Nat), vs = [v, .int W, .int s] ∧ BkV K H v b ∧ OkB b ∧ 1 ≤ W ∧ s < b.length ∧ ∀ (res : List (Option Int)) (fin : List Nat) (H' : Hp), LastM b W res fin → Ext [] H H' → Q (oV (specM b W res s)) H'
theorem ok_special (T : Tx K mg) : FnOk P w K mg base CX0 6 T.special.f T.special.fd ["book", "window", "state"] (sp_special K) := by
  refine T.special.F.ok sc_special (fun vs H Q E h => ?_) (fun cdv A outer s H vs Q E hr h => ?_)
  · obtain ⟨v, b, W, s, rfl, _⟩ := h; rfl
  · obtain ⟨v, b, W, st, rfl, hb, ok, hW, hs, q⟩ := h
    have fb := ok.toFormB
    have h8 := fb.eight
    refine ⟨_, (pss_cons (ps_expr (pe_call (ok_made_book T) (hr.mono (by decide)) (by rfl) T.made_book.g T.made_book.F.kp T.made_book.b .nil pass0 (pa_cons (pv 0) pa_nil)))
      (pss_cons (ps_expr (pe_call (ok_check_number T) (hr.mono (by decide)) (by rfl) T.check_number.g T.check_number.F.kp T.check_number.b .nil pass0 (pa_cons (pv 1) pa_nil)))
      (pss_cons (ps_expr (pe_call (ok_check_state T) (hr.mono (by decide)) (by rfl) T.check_state.g T.check_state.F.kp T.check_state.b .nil pass0 (pa_cons (pv 0) (pa_cons (pv 2) pa_nil))))
      (pss_one (ps_ret (pe_call (ok_special_for T) (hr.mono (by decide)) (by rfl) T.special_for.g T.special_for.F.kp T.special_for.b .nil pass0 (pa_cons (pv 0) (pa_cons (pv 1) (pa_cons (pe_call (ok_ranks_for T) (hr.mono (by decide)) (by rfl) T.ranks_for.g T.ranks_for.F.kp T.ranks_for.b .nil pass0 (pa_cons (pv 0) (pa_cons (pv 1) pa_nil))) (pa_cons (pv 2) pa_nil)))))))))), ?_⟩
    refine ⟨_, rfl, v, b, rfl, hb, ok, fun H1 e1 => ?_⟩
    refine ⟨_, rfl, W, rfl, hW, ?_⟩
    refine ⟨_, rfl, _, rfl, v, b, st, rfl, hb.ext0 e1, hs, ?_⟩
    refine ⟨_, rfl, _, rfl, _, rfl, _, rfl, v, b, W, rfl, hb.ext0 e1, fb, hW, fun res fin t H2 hL ht e2 => ⟨_, rfl, v, b, W, st, t, res, fin, rfl, hb.ext0 (e1.trans e2), fb, hW, hs, hL, ht, fun H' e' => q res fin H' hL ((e1.trans e2).trans e')⟩⟩
end
end Nv
set_option Elab.async false
set_option linter.all false
set_option maxRecDepth 100000
namespace Nv
open PySem PySem.Spec PyProof.Rows L2
section
variable {P : Program} {w : World} {K : PySem.W.Frag} {mg : Str → Option Value} {base : Heap}
/-! ### windows that are none -/
theorem sc_law_win_no_windows : FnScope [] [] (defScope s_law_win_no_windows) := ⟨rfl, rfl, rfl, by decide +kernel, rfl, by decide +kernel, by decide +kernel⟩
def noWins : List PyData := [.none, .int 0, .int (-1), .bool true, .bool false, .str "1", .tuple [.int 1], .int (-(10 ^ 20))]
def sp_law_win_no_windows (K : PySem.W.Frag) : Sp := fun vs H Q _ => vs = [] ∧ ∀ (t : Addr) (xs : List V) (H' : Hp), H' t = some (.lst xs) → DpAll K H' xs noWins → Ext [] H H' → Q (.ref t) H'
theorem ok_law_win_no_windows (T : Tx K mg) : FnOk P w K mg base CX0 1 T.law_win_no_windows.f T.law_win_no_windows.fd [] (sp_law_win_no_windows K) := by
  refine T.law_win_no_windows.F.ok sc_law_win_no_windows (fun vs H Q E h => ?_) (fun cdv A outer s H vs Q E hr h => ?_)
  · obtain ⟨rfl, _⟩ := h; rfl
  · obtain ⟨rfl, q⟩ := h
    refine ⟨_, (pss_one (ps_ret (pe_lst (pa_cons pe_non (pa_cons pe_int (pa_cons (pe_un un_neg pe_int) (pa_cons pe_bl (pa_cons pe_bl (pa_cons pe_str (pa_cons (pe_tup (pa_cons pe_int pa_nil)) (pa_cons (pe_un un_neg (pe_op op_pow pe_int pe_int)) pa_nil))))))))))), ?_⟩
    refine ⟨1, rfl, (by show 1 ≤ sizeLine; decide), fun t ht => ?_⟩
    have e1 : Ext [] H (upd H t (.tup [.int 1])) := .new ht
    refine ⟨10, 20, rfl, rfl, ⟨by decide, by decide, by decide⟩, _, rfl, (by show 8 ≤ sizeLine; decide), fun l hl => ?_⟩
    have e2 : Ext [] (upd H t (.tup [.int 1])) (upd (upd H t (.tup [.int 1])) l (.lst [.non, .int 0, .int (-1), .bl true, .bl false, .str "1", .ref t, .int (-(10 ^ 20))])) := .new hl
    exact q l _ _ upd_same (.cons .non (.cons (.int 0) (.cons (.int (-1)) (.cons (.bl true) (.cons (.bl false) (.cons (.str "1") (.cons (.tup (e2.tup Lsts.nil (.of upd_same)) (.cons (.int 1) .nil)) (.cons (.int _) .nil)))))))) (e1.trans e2)
end
end Nv
set_option Elab.async false
set_option linter.all false
set_option maxRecDepth 100000
namespace Nv
open PySem PySem.Spec PyProof.Rows L2
section
variable {P : Program} {w : World} {K : PySem.W.Frag} {mg : Str → Option Value} {base : Heap}
/-! ### messages and numbers that are none -/
def msgD (s : State) : PyData → Bool
  | .int i => s.any fun p => decide ((p.1 : Int) = i)
  | _ => false
def manyD : PyData → Bool
  | .int i => decide (0 ≤ i)
  | _ => false
/-- [m for m, to in moves] -/
theorem inV_msgs (s : State) (i : Int) : inV (V.int i) ((s.map (·.1)).map nV) = msgD s (.int i) := by
  unfold inV msgD
  rw [List.any_map, List.any_map, Bool.eq_iff_iff, List.any_eq_true, List.any_eq_true]
  have key : ∀ n : Nat, eqV (V.int i) (nV n) = decide ((n : Int) = i) ∧ eqV (nV n) (V.int i) = decide ((n : Int) = i) := fun n => by
    unfold nV eqV
    by_cases h : (n : Int) = i
    · simp [h]
    · have h2 : ¬ i = (n : Int) := fun e => h e.symm
      simp [h, h2]
  constructor
  · rintro ⟨p, hp, e⟩
    refine ⟨p, hp, ?_⟩
    have e : eqV (V.int i) (nV p.1) = true ∨ eqV (nV p.1) (V.int i) = true := by first | exact .inl e | exact .inr e
    rcases e with e | e
    · rw [(key p.1).1] at e; exact e
    · rw [(key p.1).2] at e; exact e
  · rintro ⟨p, hp, e⟩
    refine ⟨p, hp, ?_⟩
    first
      | (show eqV (V.int i) (nV p.1) = true; rw [(key p.1).1]; exact e)
      | (show eqV (nV p.1) (V.int i) = true; rw [(key p.1).2]; exact e)
theorem sc_stands : FnScope ["book", "state", "message", "m", "to"] ["book", "state", "message"] (defScope s_stands) := ⟨rfl, rfl, rfl, by decide +kernel, rfl, by decide +kernel, by decide +kernel⟩
def sp_stands (K : PySem.W.Frag) : Sp := fun vs H Q _ => ∃ (v u : V) (b : Book) (s : Nat) (d : PyData), vs = [v, .int s, u] ∧ BkV K H v b ∧ FormB b ∧ s < b.length ∧ Dp K H u d ∧ ∀ H', Ext [] H H' → Q (.bl (msgD (mvs b s) d)) H'
theorem ok_stands (T : Tx K mg) : FnOk P w K mg base CX0 2 T.stands.f T.stands.fd ["book", "state", "message"] (sp_stands K) := by
  refine T.stands.F.ok sc_stands (fun vs H Q E h => ?_) (fun cdv A outer s H vs Q E hr h => ?_)
  · obtain ⟨v, u, b, s, d, rfl, _⟩ := h; rfl
  · obtain ⟨v, y, b, st, d, rfl, ⟨a, ls, rfl, ha, hls⟩, fb, hs, hd, q⟩ := h
    obtain ⟨u, hu, c, ps, rfl, hc, hps⟩ := Paired.get hls (mvs_lt hs)
    have plen := Paired.len hps
    have five := (fb.ok hs).few
    refine ⟨_, (pss_one (ps_ret (pe_and (pe_call (okD_whole T) (hr.mono (by decide)) (by rfl) T.whole.g T.whole.F.kp T.whole.b .nil pass0 (pa_cons (pv 2) pa_nil)) (pe_one (pe_cmpR op_in_seq (pv 2) (pe_lc (own := [("m", 3), ("to", 4)]) rfl sc_stands.nd (pi_tup (pe_ix ix_tup (pv 0) (pv 1) (fun _ _ => rfl))) (blkOk_by (own := [("m", 3), ("to", 4)]) (N := ["book", "state", "message", "m", "to"]) (sc := defScope s_stands) (by decide +kernel)) (fun _ _ _ _ _ => (pg_tupK (n := 2) K rfl (pgs_cons (pg_name (i := 3) sc_stands.nd rfl (.inl rfl)) (pgs_cons (pg_name (i := 4) sc_stands.nd rfl (.inl rfl)) pgs_nil)))) (fun _ _ _ _ _ => pts_nil) (fun _ _ _ _ _ => (pv 3))) (by rfl)))))), ?_⟩
    refine ⟨_, rfl, y, d, rfl, hd, _, rfl, ?_⟩
    cases hw : wholeD d with
    | false =>
      refine iteF ?_
      have : msgD (mvs b st) d = false := by cases d <;> first | rfl | cases hw
      rw [this] at q
      exact q H .refl
    | true =>
      obtain ⟨i, rfl⟩ : ∃ i, d = .int i := by cases d <;> first | exact ⟨_, rfl⟩ | cases hw
      cases hd
      refine iteT ⟨_, rfl, _, rfl, _, rfl, a, _, _, _, rfl, rfl, ha, atI_nat hu, c, rfl, ⟨_, hc.sq⟩, fun D hD => ?_⟩
      refine lc_tup (K := K) (a := c) (xs := ps.map V.ref) (fun i H' => H' D = some (.lst ((((mvs b st).take i).map (·.1)).map nV)) ∧ Ext [] H H') ⟨by simp; exact upd_same, .new hD⟩ (fun i H' _ ⟨_, e⟩ => (e.tz Lsts.nil hc).sq) ?_ ?_
      · rintro i v H' hv ⟨hX, e⟩
        obtain ⟨g, hg, rfl⟩ := map_at hv
        obtain ⟨p, hpp, hcp⟩ := Paired.get' hps hg
        refine ⟨g, _, rfl, hcp.ext0 e, rfl, _, _, rfl, _, _, rfl, rfl, rfl, yes ?_⟩
        refine ⟨_, rfl, _, hX, ?_, ?_, e.put hD⟩
        · rw [List.length_map, List.length_map, List.length_take]
          exact small1000 (by omega)
        · rw [upd_same, List.take_add_one, hpp, List.map_append, List.map_append]
          rfl
      · rintro H' ⟨hX, e⟩
        rw [List.length_map, plen, List.take_length] at hX
        refine ⟨D, _, rfl, .inl (.of hX), rfl, flat_nV _, ?_⟩
        have : (if (false : Bool) = true then !inV (V.int i) (((mvs b st).map (·.1)).map nV) else inV (V.int i) (((mvs b st).map (·.1)).map nV)) = msgD (mvs b st) (.int i) := by rw [if_neg (by decide), inV_msgs]
        rw [this]
        exact q H' e
theorem sc_check_message : FnScope ["book", "state", "message"] ["book", "state", "message"] (defScope s_check_message) := ⟨rfl, rfl, rfl, by decide +kernel, rfl, by decide +kernel, by decide +kernel⟩
def sp_check_message (K : PySem.W.Frag) : Sp := fun vs H Q _ => ∃ (v : V) (b : Book) (s : Nat) (p : Nat × Nat), vs = [v, .int s, .int p.1] ∧ BkV K H v b ∧ FormB b ∧ s < b.length ∧ p ∈ mvs b s ∧ ∀ H', Ext [] H H' → Q .non H'
theorem ok_check_message (T : Tx K mg) : FnOk P w K mg base CX0 3 T.check_message.f T.check_message.fd ["book", "state", "message"] (sp_check_message K) := by
  refine T.check_message.F.ok sc_check_message (fun vs H Q E h => ?_) (fun cdv A outer s H vs Q E hr h => ?_)
  · obtain ⟨v, b, s, p, rfl, _⟩ := h; rfl
  · obtain ⟨v, b, st, q0, rfl, hb, fb, hs, hp, q⟩ := h
    refine ⟨_, (pss_one (ps_if (pt_not (pt_val (pe_call (ok_stands T) (hr.mono (by decide)) (by rfl) T.stands.g T.stands.F.kp T.stands.b .nil pass0 (pa_cons (pv 0) (pa_cons (pv 1) (pa_cons (pv 2) pa_nil))))))
        (pss_one ps_never)
        pss_nil)), ?_⟩
    refine ⟨_, rfl, _, rfl, _, rfl, v, _, b, st, .int q0.1, rfl, hb, fb, hs, .int _, fun H' e => ⟨_, rfl, ?_⟩⟩
    have hin : msgD (mvs b st) (.int q0.1) = true := List.any_eq_true.mpr ⟨q0, hp, decide_eq_true rfl⟩
    rw [hin]
    exact iteF (q H' e)
def sp_check_messageX (K : PySem.W.Frag) (C : Addr) : Sp := fun vs H _ E => ∃ (v u : V) (b : Book) (s : Nat) (d : PyData), vs = [v, .int s, u] ∧ BkV K H v b ∧ FormB b ∧ s < b.length ∧ Dp K H u d ∧ msgD (mvs b s) d = false ∧ OutsV H E C u
theorem okX_check_message (T : Tx K mg) : FnOk P w K mg base (L2.CX P w) 3 T.check_message.f T.check_message.fd ["book", "state", "message"] (sp_check_messageX K T.x_NoMessage.C) := by
  refine T.check_message.F.okX sc_check_message (fun vs H Q E h => ?_) (fun cdv A outer s H vs Q E hr h => ?_)
  · obtain ⟨v, u, b, s, d, rfl, _⟩ := h; rfl
  · obtain ⟨v, y, b, st, d, rfl, hb, fb, hs, hd, hm, qe⟩ := h
    refine ⟨_, (pss_one (ps_if (pt_not (pt_val (pe_call (ok_stands T) (hr.mono (by decide)) (by rfl) T.stands.g T.stands.F.kp T.stands.b .nil pass0 (pa_cons (pv 0) (pa_cons (pv 1) (pa_cons (pv 2) pa_nil))))))
        (pss_one (ps_raise rfl (takes_of rfl rfl rfl rfl) (pmk_X T.x_NoMessage T.init.ti (ok_init T) (hr.mono (by decide)) T.init.b (by rfl) (pv 2))))
        pss_nil)), ?_⟩
    refine ⟨_, rfl, _, rfl, _, rfl, v, y, b, st, d, rfl, hb, fb, hs, hd, fun H' e => ⟨_, rfl, ?_⟩⟩
    rw [hm]
    exact iteT ⟨_, rfl, fun dx nd => qe dx _ (e.free nd) ⟨_, upd_same⟩ (e.put2 nd)⟩
/-! ### forks, leads -/
theorem sc_forks : FnScope ["book"] ["book"] (defScope s_forks) := ⟨rfl, rfl, rfl, by decide +kernel, rfl, by decide +kernel, by decide +kernel⟩
def sp_forks (K : PySem.W.Frag) : Sp := fun vs H Q _ => ∃ (v : V) (b : Book), vs = [v] ∧ BkV K H v b ∧ OkB b ∧ ∀ (t : Addr) (H' : Hp), SqT K H' t ((forksM b).map nV) → Ext [] H H' → Q (.ref t) H'
theorem ok_forks (T : Tx K mg) : FnOk P w K mg base CX0 6 T.forks.f T.forks.fd ["book"] (sp_forks K) := by
  refine T.forks.F.ok sc_forks (fun vs H Q E h => ?_) (fun cdv A outer s H vs Q E hr h => ?_)
  · obtain ⟨v, b, rfl, _⟩ := h; rfl
  · obtain ⟨v, b, rfl, hb, ok, q⟩ := h
    refine ⟨_, (pss_cons (ps_expr (pe_call (ok_made_book T) (hr.mono (by decide)) (by rfl) T.made_book.g T.made_book.F.kp T.made_book.b .nil pass0 (pa_cons (pv 0) pa_nil)))
      (pss_one (ps_ret (pe_call (ok_fork_states T) (hr.mono (by decide)) (by rfl) T.fork_states.g T.fork_states.F.kp T.fork_states.b .nil pass0 (pa_cons (pv 0) pa_nil))))), ?_⟩
    exact ⟨_, rfl, v, b, rfl, hb, ok, fun H1 e1 => ⟨_, rfl, v, b, rfl, hb.ext0 e1, ok.toFormB.eight, fun t H' ht e => q t H' ht (e1.trans e)⟩⟩
theorem okX_forks (T : Tx K mg) : FnOk P w K mg base (L2.CX P w) 6 T.forks.f T.forks.fd ["book"] (sp_refused K T.x_BadBook.C T.x_Stray.C) := by
  refine T.forks.F.okX sc_forks (fun vs H Q E h => ?_) (fun cdv A outer s H vs Q E hr h => ?_)
  · obtain ⟨v, d, C, e, rfl, _⟩ := h; rfl
  · obtain ⟨v, d, C, e, rfl, hd, href, q⟩ := h
    refine ⟨_, (pss_cons (ps_expr (pe_call (okX_made_book T) (hr.mono (by decide)) (by rfl) T.made_book.g T.made_book.F.kp T.made_book.b .nil (passes_call (takes_of rfl rfl rfl rfl) (fun _ _ _ _ h => h)) (pa_cons (pv 0) pa_nil)))
      (PSs.nox (pss_one (ps_ret (pe_call (ok_fork_states T) (hr.mono (by decide)) (by rfl) T.fork_states.g T.fork_states.F.kp T.fork_states.b .nil pass0 (pa_cons (pv 0) pa_nil)))))), ?_⟩
    exact ⟨_, rfl, v, d, C, e, rfl, hd, href, q⟩
theorem sc_leads : FnScope ["book", "state", "message", "many"] ["book", "state", "message", "many"] (defScope s_leads) := ⟨rfl, rfl, rfl, by decide +kernel, rfl, by decide +kernel, by decide +kernel⟩
def sp_leads (K : PySem.W.Frag) : Sp := fun vs H Q _ => ∃ (v : V) (b : Book) (s k : Nat) (p : Nat × Nat), vs = [v, .int s, .int p.1, .int k] ∧ BkV K H v b ∧ OkB b ∧ s < b.length ∧ p ∈ mvs b s ∧ ∀ (t : Addr) (H' : Hp), SqT K H' t ((ledL b p.2 k).map nV) → Ext [] H H' → Q (.ref t) H'
theorem ok_leads (T : Tx K mg) : FnOk P w K mg base CX0 6 T.leads.f T.leads.fd ["book", "state", "message", "many"] (sp_leads K) := by
  refine T.leads.F.ok sc_leads (fun vs H Q E h => ?_) (fun cdv A outer s H vs Q E hr h => ?_)
  · obtain ⟨v, b, s, k, p, rfl, _⟩ := h; rfl
  · obtain ⟨v, b, st, k, p, rfl, hb, ok, hs, hp, q⟩ := h
    have fb := ok.toFormB
    refine ⟨_, (pss_cons (ps_expr (pe_call (ok_made_book T) (hr.mono (by decide)) (by rfl) T.made_book.g T.made_book.F.kp T.made_book.b .nil pass0 (pa_cons (pv 0) pa_nil)))
      (pss_cons (ps_expr (pe_call (ok_check_state T) (hr.mono (by decide)) (by rfl) T.check_state.g T.check_state.F.kp T.check_state.b .nil pass0 (pa_cons (pv 0) (pa_cons (pv 1) pa_nil))))
      (pss_cons (ps_expr (pe_call (ok_check_message T) (hr.mono (by decide)) (by rfl) T.check_message.g T.check_message.F.kp T.check_message.b .nil pass0 (pa_cons (pv 0) (pa_cons (pv 1) (pa_cons (pv 2) pa_nil)))))
      (pss_cons (ps_if (PW.pt (pw_or (pt_not (pt_val (pe_call (ok_whole T) (hr.mono (by decide)) (by rfl) T.whole.g T.whole.F.kp T.whole.b .nil pass0 (pa_cons (pv 3) pa_nil)))) (pw_or1 (pt_cmpR op_lt (pv 3) pe_int (nomark _)))))
        (pss_one ps_never)
        pss_nil)
      (pss_one (ps_ret (pe_call (ok_led_to T) (hr.mono (by decide)) (by rfl) T.led_to.g T.led_to.F.kp T.led_to.b .nil pass0 (pa_cons (pv 0) (pa_cons (pv 1) (pa_cons (pv 2) (pa_cons (pv 3) pa_nil))))))))))), ?_⟩
    refine ⟨_, rfl, v, b, rfl, hb, ok, fun H1 e1 => ?_⟩
    refine ⟨_, rfl, _, rfl, v, b, st, rfl, hb.ext0 e1, hs, ?_⟩
    refine ⟨_, rfl, _, rfl, _, rfl, v, b, st, p, rfl, hb.ext0 e1, fb, hs, hp, fun H2 e2 => ?_⟩
    refine ⟨_, rfl, _, rfl, _, rfl, notF rfl ⟨_, rfl, _, _, rfl, rfl, _, rfl, ?_⟩⟩
    rw [decide_eq_false (by omega)]
    refine iteF ?_
    exact ⟨_, rfl, _, rfl, _, rfl, _, rfl, v, b, st, k, p, rfl, hb.ext0 (e1.trans e2), fb, hp, fun t H' ht e => q t H' ht ((e1.trans e2).trans e)⟩
def RefLd (K : PySem.W.Frag) (CB CS CT CM CY : Addr) (H : Hp) (E : XK) (v x y z : V) : Prop :=
  (∃ (d : PyData) (C : Addr) (e : Int), Dp K H v d ∧ Ref CB CS d C e ∧ Outs H E C e) ∨
  (∃ (b : Book) (d : PyData), BkV K H v b ∧ OkB b ∧ Dp K H x d ∧ inD d 0 ((b.length : Int) - 1) = false ∧ OutsV H E CT x) ∨
  (∃ (b : Book) (s : Nat) (d : PyData), BkV K H v b ∧ OkB b ∧ x = .int s ∧ s < b.length ∧ Dp K H y d ∧ msgD (mvs b s) d = false ∧ OutsV H E CM y) ∨
  (∃ (b : Book) (s : Nat) (p : Nat × Nat) (d : PyData), BkV K H v b ∧ OkB b ∧ x = .int s ∧ s < b.length ∧ p ∈ mvs b s ∧ y = .int p.1 ∧ Dp K H z d ∧ manyD d = false ∧ OutsV H E CY (.int 0))
def sp_leadsX (K : PySem.W.Frag) (CB CS CT CM CY : Addr) : Sp := fun vs H _ E => ∃ (v x y z : V), vs = [v, x, y, z] ∧ RefLd K CB CS CT CM CY H E v x y z
theorem okX_leads (T : Tx K mg) : FnOk P w K mg base (L2.CX P w) 6 T.leads.f T.leads.fd ["book", "state", "message", "many"] (sp_leadsX K T.x_BadBook.C T.x_Stray.C T.x_BadState.C T.x_NoMessage.C T.x_BadMany.C) := by
  refine T.leads.F.okX sc_leads (fun vs H Q E h => ?_) (fun cdv A outer s H vs Q E hr h => ?_)
  · obtain ⟨v, x, y, z, rfl, _⟩ := h; rfl
  · obtain ⟨v, x, y, z, rfl, ⟨d, C, e, hd, href, q⟩ | ⟨b, d, hb, ok, hd, hn, q⟩ | ⟨b, st, d, hb, ok, rfl, hs, hd, hn, q⟩ | ⟨b, st, p, d, hb, ok, rfl, hs, hp, rfl, hd, hn, q⟩⟩ := h
    · refine ⟨_, (pss_cons (ps_expr (pe_call (okX_made_book T) (hr.mono (by decide)) (by rfl) T.made_book.g T.made_book.F.kp T.made_book.b .nil (passes_call (takes_of rfl rfl rfl rfl) (fun _ _ _ _ h => h)) (pa_cons (pv 0) pa_nil)))
      (pss_cons (ps_expr (pe_call (ok_check_state T) (hr.mono (by decide)) (by rfl) T.check_state.g T.check_state.F.kp T.check_state.b .nil pass0 (pa_cons (pv 0) (pa_cons (pv 1) pa_nil))))
      (pss_cons (ps_expr (pe_call (ok_check_message T) (hr.mono (by decide)) (by rfl) T.check_message.g T.check_message.F.kp T.check_message.b .nil pass0 (pa_cons (pv 0) (pa_cons (pv 1) (pa_cons (pv 2) pa_nil)))))
      (pss_cons (ps_if (PW.pt (pw_or (pt_not (pt_val (pe_call (ok_whole T) (hr.mono (by decide)) (by rfl) T.whole.g T.whole.F.kp T.whole.b .nil pass0 (pa_cons (pv 3) pa_nil)))) (pw_or1 (pt_cmpR op_lt (pv 3) pe_int (nomark _)))))
        (pss_one (ps_raise rfl (takes_of rfl rfl rfl rfl) (pmk_X T.x_BadMany T.init.ti (ok_init T) (hr.mono (by decide)) T.init.b (by rfl) pe_int)))
        pss_nil)
      (PSs.nox (pss_one (ps_ret (pe_call (ok_led_to T) (hr.mono (by decide)) (by rfl) T.led_to.g T.led_to.F.kp T.led_to.b .nil pass0 (pa_cons (pv 0) (pa_cons (pv 1) (pa_cons (pv 2) (pa_cons (pv 3) pa_nil)))))))))))), ?_⟩
      exact ⟨_, rfl, v, d, C, e, rfl, hd, href, q⟩
    · refine ⟨_, (pss_cons (ps_expr (pe_call (ok_made_book T) (hr.mono (by decide)) (by rfl) T.made_book.g T.made_book.F.kp T.made_book.b .nil pass0 (pa_cons (pv 0) pa_nil)))
      (pss_cons (ps_expr (pe_call (okX_check_state T) (hr.mono (by decide)) (by rfl) T.check_state.g T.check_state.F.kp T.check_state.b .nil (passes_call (takes_of rfl rfl rfl rfl) (fun _ _ _ _ h => h)) (pa_cons (pv 0) (pa_cons (pv 1) pa_nil))))
      (pss_cons (ps_expr (pe_call (ok_check_message T) (hr.mono (by decide)) (by rfl) T.check_message.g T.check_message.F.kp T.check_message.b .nil pass0 (pa_cons (pv 0) (pa_cons (pv 1) (pa_cons (pv 2) pa_nil)))))
      (pss_cons (ps_if (PW.pt (pw_or (pt_not (pt_val (pe_call (ok_whole T) (hr.mono (by decide)) (by rfl) T.whole.g T.whole.F.kp T.whole.b .nil pass0 (pa_cons (pv 3) pa_nil)))) (pw_or1 (pt_cmpR op_lt (pv 3) pe_int (nomark _)))))
        (pss_one (ps_raise rfl (takes_of rfl rfl rfl rfl) (pmk_X T.x_BadMany T.init.ti (ok_init T) (hr.mono (by decide)) T.init.b (by rfl) pe_int)))
        pss_nil)
      (PSs.nox (pss_one (ps_ret (pe_call (ok_led_to T) (hr.mono (by decide)) (by rfl) T.led_to.g T.led_to.F.kp T.led_to.b .nil pass0 (pa_cons (pv 0) (pa_cons (pv 1) (pa_cons (pv 2) (pa_cons (pv 3) pa_nil)))))))))))), ?_⟩
      exact ⟨_, rfl, v, b, rfl, hb, ok, fun H1 e1 => ⟨_, rfl, _, rfl, v, x, b, d, rfl, hb.ext0 e1, Dp.ext0 e1 hd, hn, q.ext e1⟩⟩
    · refine ⟨_, (pss_cons (ps_expr (pe_call (ok_made_book T) (hr.mono (by decide)) (by rfl) T.made_book.g T.made_book.F.kp T.made_book.b .nil pass0 (pa_cons (pv 0) pa_nil)))
      (pss_cons (ps_expr (pe_call (ok_check_state T) (hr.mono (by decide)) (by rfl) T.check_state.g T.check_state.F.kp T.check_state.b .nil pass0 (pa_cons (pv 0) (pa_cons (pv 1) pa_nil))))
      (pss_cons (ps_expr (pe_call (okX_check_message T) (hr.mono (by decide)) (by rfl) T.check_message.g T.check_message.F.kp T.check_message.b .nil (passes_call (takes_of rfl rfl rfl rfl) (fun _ _ _ _ h => h)) (pa_cons (pv 0) (pa_cons (pv 1) (pa_cons (pv 2) pa_nil)))))
      (pss_cons (ps_if (PW.pt (pw_or (pt_not (pt_val (pe_call (ok_whole T) (hr.mono (by decide)) (by rfl) T.whole.g T.whole.F.kp T.whole.b .nil pass0 (pa_cons (pv 3) pa_nil)))) (pw_or1 (pt_cmpR op_lt (pv 3) pe_int (nomark _)))))
        (pss_one (ps_raise rfl (takes_of rfl rfl rfl rfl) (pmk_X T.x_BadMany T.init.ti (ok_init T) (hr.mono (by decide)) T.init.b (by rfl) pe_int)))
        pss_nil)
      (PSs.nox (pss_one (ps_ret (pe_call (ok_led_to T) (hr.mono (by decide)) (by rfl) T.led_to.g T.led_to.F.kp T.led_to.b .nil pass0 (pa_cons (pv 0) (pa_cons (pv 1) (pa_cons (pv 2) (pa_cons (pv 3) pa_nil)))))))))))), ?_⟩
      exact ⟨_, rfl, v, b, rfl, hb, ok, fun H1 e1 => ⟨_, rfl, _, rfl, v, b, st, rfl, hb.ext0 e1, hs, _, rfl, _, rfl, _, rfl, v, y, b, st, d, rfl, hb.ext0 e1, ok.toFormB, hs, Dp.ext0 e1 hd, hn, q.ext e1⟩⟩
    · refine ⟨_, (pss_cons (ps_expr (pe_call (ok_made_book T) (hr.mono (by decide)) (by rfl) T.made_book.g T.made_book.F.kp T.made_book.b .nil pass0 (pa_cons (pv 0) pa_nil)))
      (pss_cons (ps_expr (pe_call (ok_check_state T) (hr.mono (by decide)) (by rfl) T.check_state.g T.check_state.F.kp T.check_state.b .nil pass0 (pa_cons (pv 0) (pa_cons (pv 1) pa_nil))))
      (pss_cons (ps_expr (pe_call (ok_check_message T) (hr.mono (by decide)) (by rfl) T.check_message.g T.check_message.F.kp T.check_message.b .nil pass0 (pa_cons (pv 0) (pa_cons (pv 1) (pa_cons (pv 2) pa_nil)))))
      (pss_cons (ps_if (PW.pt (pw_or (pt_not (pt_val (pe_call (okD_whole T) (hr.mono (by decide)) (by rfl) T.whole.g T.whole.F.kp T.whole.b .nil pass0 (pa_cons (pv 3) pa_nil)))) (pw_or1 (pt_cmpR op_lt (pv 3) pe_int (nomark _)))))
        (pss_one (ps_raise rfl (takes_of rfl rfl rfl rfl) (pmk_X T.x_BadMany T.init.ti (ok_init T) (hr.mono (by decide)) T.init.b (by rfl) pe_int)))
        pss_nil)
      (PSs.nox (pss_one (ps_ret (pe_call (ok_led_to T) (hr.mono (by decide)) (by rfl) T.led_to.g T.led_to.F.kp T.led_to.b .nil pass0 (pa_cons (pv 0) (pa_cons (pv 1) (pa_cons (pv 2) (pa_cons (pv 3) pa_nil)))))))))))), ?_⟩
      refine ⟨_, rfl, v, b, rfl, hb, ok, fun H1 e1 => ⟨_, rfl, _, rfl, v, b, st, rfl, hb.ext0 e1, hs, _, rfl, _, rfl, _, rfl, v, b, st, p, rfl, hb.ext0 e1, ok.toFormB, hs, hp, fun H2 e2 => ?_⟩⟩
      have f2 := e1.trans e2
      refine ⟨_, rfl, z, d, rfl, Dp.ext0 f2 hd, _, rfl, ?_⟩
      cases hw : wholeD d with
      | false => exact iteT fun dx nd => q dx _ (f2.free nd) ⟨_, upd_same⟩ (f2.put2 nd)
      | true =>
        obtain ⟨i, rfl⟩ : ∃ i, d = .int i := by cases d <;> first | exact ⟨_, rfl⟩ | cases hw
        cases hd
        have hi : ¬ (0 : Int) ≤ i := of_decide_eq_false hn
        refine iteF ⟨_, rfl, _, _, rfl, rfl, _, rfl, ?_⟩
        rw [decide_eq_true (show i < 0 by omega)]
        exact iteT fun dx nd => q dx _ (f2.free nd) ⟨_, upd_same⟩ (f2.put2 nd)
end
end Nv
set_option Elab.async false
set_option linter.all false
set_option maxRecDepth 100000
namespace Nv
open PySem PySem.Spec PyProof.Rows L2
section
variable {P : Program} {w : World} {K : PySem.W.Frag} {mg : Str → Option Value} {base : Heap}
/-! ### data that is none -/
theorem shaped_mvsT (s : State) : SeqAt.shaped (.tuple (s.map mvD)) = true := by
  have h1 := mvs_lay s
  have h2 := mvs_depth s
  simp [SeqAt.shaped, PyData.canLay0, PyData.depth, h1]
  omega
theorem eqv_mvs_nilT {s : State} : PyData.eqv (.tuple (s.map mvD)) (.tuple []) = decide (s = []) := by
  cases s with
  | nil => rfl
  | cons q r => simp [PyData.eqv, PyData.eqvAll]
theorem flat_oV (l : List (Option Int)) : (l.map oV).all flatV = true := by
  rw [List.all_eq_true]
  intro v hv
  obtain ⟨o, _, rfl⟩ := List.mem_map.mp hv
  cases o <;> rfl
/-! ### a lambda handed to _law_win_heard, within a comprehension -/
open LamX in
theorem pe_heardB {K : PySem.W.Frag} {mg : Str → Option Value} (qn : Str) {X : Cx} (hG : X.A.guards = some []) {k : Nat} (T : Tx K mg) {c P : Addr} {params : Arguments} {body : Expr} {scope : Scope} {t : XK → TE} {p lpos pos : Pos} (eK : X.K = K) (em : X.mg = mg) (hg : Gl X "_law_win_heard") (TB : TabB X.base X.mg c P) (hcode : X.env.code = .ref c)
    (hr : Room (k + 2) X.A) (L : LamS X.env.scope scope) (hdef : defaultsOf params X.env = ([], [])) (hbind : ∀ (q : Str) (cl : List (Str × Addr)) (pm cv ctv : Value), bindArgs (PySem.W.kla_fn "<lambda>" q params body scope cl pm cv ctv) ⟨[], []⟩ = pure [])
    (hbody : ∀ (A : Around) (outer : List Env) (s : Shared) (H : Hp) (E : XK) (f c' : Addr), Room k (A.deeper (lamEnv X scope s.heap.objs.size f c')) → PE (lamCx X A outer s H E scope f c') body (t E)) (hq : X.env.qual = qn := by rfl) :
    PE X (.Call (.Name "_law_win_heard" p) [.Lambda params body scope lpos] [] pos) (tLam [(P, qn ++ "<lambda>")] (THeard T) t) := by
  subst hq
  exact pe_heardA hG T eK em hg TB hcode hr L hdef hbind hbody
end
end Nv
set_option Elab.async false
set_option linter.all false
set_option maxRecDepth 100000
namespace Nv
open PySem PySem.Spec PyProof.Rows L2
section
variable {P : Program} {w : World} {K : PySem.W.Frag} {mg : Str → Option Value} {base : Heap}
/-! ### the law's own messages back, as numbers -/
def LmV (H : Hp) (v : V) (l : List Nat) : Prop := ∃ a : Addr, v = .ref a ∧ H a = some (.lst (l.map nV))
theorem LmV.ext0 {H H' : Hp} {v : V} {l : List Nat} (h : LmV H v l) (e : Ext [] H H') : LmV H' v l := by
  obtain ⟨a, rfl, h1⟩ := h
  exact ⟨a, rfl, e.at h1 (by simp)⟩
end
end Nv
set_option Elab.async false
set_option linter.all false
set_option maxRecDepth 100000
namespace Nv
open PySem PySem.Spec PyProof.Rows L2
section
variable {P : Program} {w : World} {K : PySem.W.Frag} {mg : Str → Option Value} {base : Heap}
/-! ### the law's own count of rays -/
theorem mut_dk {kvs : List (Key × V)} : Mut (some (HO.dK kvs)) := trivial
theorem mergeOne (k : Nat) (v : V) : mergeK [] [(kN k, v)] = [(kN k, v)] := rfl
theorem getN_at {l : List (Nat × Nat)} (nd : (l.map (·.1)).Nodup) {i : Nat} {q : Nat × Nat} (h : l[i]? = some q) : valV (kvN l) (kN q.1) = some (nV q.2) := by
  rw [val_kvN, get_at nd h]
  rfl
end
end Nv
set_option Elab.async false
set_option linter.all false
set_option maxRecDepth 100000
namespace Nv
open PySem PySem.Spec PyProof.Rows L2
section
variable {P : Program} {w : World} {K : PySem.W.Frag} {mg : Str → Option Value} {base : Heap}
/-! ### the least number without answers -/
theorem sum_nats (l : List Nat) : (l.map fun n : Nat => (n : Int)).sum = ((l.sum : Nat) : Int) := by
  induction l with
  | nil => rfl
  | cons x r ih => rw [List.map_cons, List.sum_cons, List.sum_cons, ih, Int.natCast_add]
theorem cnt_at {f : Nat → Nat} {n k : Nat} (h : k < n) : (((List.range n).map f).map nV)[k]? = some (nV (f k)) := by
  rw [List.getElem?_map, List.getElem?_map, List.getElem?_range h]
  rfl
theorem fork_two {b : Book} {s : Nat} (h : s ∈ forksM b) : 1 < (mvs b s).length := (fork_iff.mp h).2
theorem chain_end {b : Book} {s j f : Nat} (h : Chain b s j f) (h2 : 1 < (mvs b s).length) : s = f ∧ j = 0 := by
  cases h with
  | zero => exact ⟨rfl, rfl⟩
  | step e _ => rw [e] at h2; simp at h2
theorem chain_go {b : Book} {s j f : Nat} (h : Chain b s j f) (hf : f ∈ forksM b) (h2 : ¬ 1 < (mvs b s).length) : ∃ p i, mvs b s = [p] ∧ j = i + 1 ∧ Chain b p.2 i f := by
  cases h with
  | zero => exact absurd (fork_two hf) h2
  | @step s j f p e hc => exact ⟨p, j, e, rfl, hc⟩
def sp_law_win_free (K : PySem.W.Frag) : Sp := fun vs H Q _ => ∃ (v : V) (b : Book), vs = [v] ∧ BkV K H v b ∧ OkB b ∧ forksM b ≠ [] ∧ ∀ (H' : Hp), Ext [] H H' → Q (oN (freeM b)) H'
theorem sc_ray_counts : FnScope ["book", "ring", "counts", "_", "state", "message", "to"] ["book"] (defScope s_ray_counts) := ⟨rfl, rfl, rfl, by decide +kernel, rfl, by decide +kernel, by decide +kernel⟩
def sp_ray_counts (K : PySem.W.Frag) : Sp := fun vs H Q _ => ∃ (v : V) (b : Book), vs = [v] ∧ BkV K H v b ∧ FormB b ∧ ∀ (t : Addr) (H' : Hp), H' t = some (.lst (((List.range b.length).map (cM b b.length)).map nV)) → Ext [] H H' → Q (.ref t) H'
theorem rep_zero (b : Book) : ∀ n, (List.replicate n [V.int 0]).flatten = ((List.range n).map (cM b 0)).map nV
  | 0 => rfl
  | n + 1 => by
    have h : ∀ m, (List.replicate m [V.int 0]).flatten = List.replicate m (V.int 0) := by
      intro m
      induction m with
      | zero => rfl
      | succ m ih => rw [List.replicate_succ, List.flatten_cons, ih, List.replicate_succ]; rfl
    rw [h]
    refine (List.eq_replicate_iff.mpr ⟨by simp, fun x hx => ?_⟩).symm
    obtain ⟨y, hy, rfl⟩ := List.mem_map.mp hx
    obtain ⟨z, _, rfl⟩ := List.mem_map.mp hy
    rfl
theorem ok_ray_counts (T : Tx K mg) : FnOk P w K mg base CX0 4 T.ray_counts.f T.ray_counts.fd ["book"] (sp_ray_counts K) := by
  refine T.ray_counts.F.ok sc_ray_counts (fun vs H Q E h => ?_) (fun cdv A outer s H vs Q E hr h => ?_)
  · obtain ⟨v, b, rfl, _⟩ := h; rfl
  · obtain ⟨v, b, rfl, hb, fb, q⟩ := h
    have h8 := fb.eight
    obtain ⟨a, ls, rfl, ha, hls⟩ := id hb
    have llen := Paired.len hls
    refine ⟨_, (pss_cons (ps_set (i := 1) sc_ray_counts.nd rfl (.inr rfl) (pe_call (ok_ring_states T) (hr.mono (by decide)) (by rfl) T.ring_states.g T.ring_states.F.kp T.ring_states.b .nil pass0 (pa_cons (pv 0) pa_nil)))
      (pss_cons (ps_set (i := 2) sc_ray_counts.nd rfl (.inr rfl) (pe_op op_rep (pe_lst (pa_cons pe_int pa_nil)) (pe_callB call_len_seq (by rfl) T.n_len PySem.boot_len (pa_cons (pv 0) pa_nil))))
      (pss_cons (ps_for PassesOwn.never rfl (pi_range1 (by rfl) T.n_range (pa_cons (pe_callB call_len_seq (by rfl) T.n_len PySem.boot_len (pa_cons (pv 0) pa_nil)) pa_nil)) (pg_name (i := 3) sc_ray_counts.nd rfl (.inl rfl))
        (pss_one (ps_set (i := 2) sc_ray_counts.nd rfl (.inr rfl) (pe_lc (own := [("state", 4)]) rfl sc_ray_counts.nd (pi_range1 (by rfl) T.n_range (pa_cons (pe_callB call_len_seq (by rfl) T.n_len PySem.boot_len (pa_cons (pv 0) pa_nil)) pa_nil)) (blkOk_by (own := [("state", 4)]) (N := ["book", "ring", "counts", "_", "state", "message", "to"]) (sc := defScope s_ray_counts) (by decide +kernel)) (fun _ _ _ _ _ => (pg_name (i := 4) sc_ray_counts.nd rfl (.inl rfl))) (fun _ _ _ _ _ => pts_nil) (fun _ _ _ _ _ => (pe_mid (pe_ifExp (pt_cmpR (op_in_seqK K) (pv 4) (pv 1) (by rfl)) pe_int (pe_callB (cr_sumK K) (by rfl) T.n_sum (by decide +kernel) (pa_cons (pe_lc (own := [("message", 5), ("to", 6)]) rfl sc_ray_counts.nd (pi_tupK K (pe_ix (ix_tupK K) (pv 0) (pv 4) (fun _ _ => rfl))) (blkOk_by (own := [("message", 5), ("to", 6)]) (by kernel_rfl)) (fun _ _ _ _ _ => (pg_tupK (n := 2) K rfl (pgs_cons (pg_name (i := 5) sc_ray_counts.nd rfl (.inl rfl)) (pgs_cons (pg_name (i := 6) sc_ray_counts.nd rfl (.inl rfl)) pgs_nil)))) (fun _ _ _ _ _ => pts_nil) (fun _ _ _ _ _ => (pe_ix (ix_listK K) (pv 2) (pv 6) (fun _ _ => rfl)))) pa_nil)))))))))
      (pss_one (ps_ret (pv 2)))))), ?_⟩
    refine ⟨_, rfl, .ref a, b, rfl, hb, fb, fun rg H1 hrg e1 => ?_⟩
    refine ⟨(by show 1 ≤ sizeLine; decide), fun x hx => ?_⟩
    have x0 : Ext [] H1 (upd H1 x (.lst [.int 0])) := .new hx
    refine ⟨_, rfl, a, _, rfl, .inr ((e1.trans x0).tup Lsts.nil ha), x, _, _, rfl, rfl, upd_same, by omega, by omega, ?_, fun ro hro => ?_⟩
    · rw [forTo llen]
      exact Nat.le_of_lt (small1000 (by show 1 * b.length ≤ 1000; omega))
    rw [forTo llen, rep_zero b]
    have x1 := x0.put2 (o := .lst (((List.range b.length).map (cM b 0)).map nV)) hro
    refine ⟨_, rfl, a, _, rfl, .inr ((e1.trans x1).tup Lsts.nil ha), _, rfl, by omega, by omega, ?_⟩
    rw [forTo llen]
    refine for_range (lo := 0) (n := b.length) (fun r σ H' => ∃ (ct : Addr) (y : Option V), σ = [some (.ref a), some (.ref rg), some (.ref ct), y, none, none, none] ∧ H' ct = some (.lst (((List.range b.length).map (cM b r)).map nV)) ∧ Ext [] H1 H') ⟨ro, _, rfl, upd_same, x1⟩ ?_ ?_
    · rintro r σ H2 hrr ⟨ct, y, rfl, hct, e2⟩
      have f2 := e1.trans e2
      refine ⟨_, rfl, a, _, rfl, .inr (f2.tup Lsts.nil ha), _, rfl, by omega, by omega, fun D hD => ?_⟩
      rw [forTo llen]
      refine lc_range (lo := 0) (n := b.length) (fun i H' => H' D = some (.lst (((List.range i).map (cM b (r + 1))).map nV)) ∧ Ext [] H2 H') ⟨upd_same, .new hD⟩ ?_ ?_
      · rintro m H3 hm ⟨hX, e3⟩
        simp only [Int.zero_add]
        refine ⟨rfl, yes ?_⟩
        have f3 := f2.trans e3
        refine ⟨fun v H' => v = nV (cM b (r + 1) m) ∧ Ext [] H3 H', ?_, ?_⟩
        · refine ⟨_, rfl, _, rfl, rg, _, rfl, .inl (.of ((e2.trans e3).at hrg (by simp))), rfl, flat_nV _, _, rfl, ?_⟩
          show (if inV (nV m) ((ringsM b).map nV) = true then _ else _)
          rw [inV_nV, mem_rings hm, c_turn]
          cases hrb : ringB b m with
          | true => exact iteT ⟨rfl, .refl⟩
          | false =>
            refine iteF ?_
            obtain ⟨u, hu, c, ps, rfl, hcz, hps⟩ := Paired.get hls (mvs_lt hm)
            have plen := Paired.len hps
            have five := (fb.ok hm).few
            refine ⟨_, rfl, _, rfl, a, _, _, _, rfl, rfl, f3.tup Lsts.nil ha, atI_nat hu, c, rfl, ⟨_, (f3.tz Lsts.nil hcz).sq⟩, fun D2 hD2 => ?_⟩
            refine lc_tup (K := K) (a := c) (xs := ps.map V.ref) (fun i H4 => H4 D2 = some (.lst ((((mvs b m).take i).map fun p => cM b r p.2).map nV)) ∧ Ext [] H3 H4) ⟨by simp; exact upd_same, .new hD2⟩ (fun i H4 _ ⟨_, e⟩ => ((f3.trans e).tz Lsts.nil hcz).sq) ?_ ?_
            · rintro i v H4 hv ⟨hX2, e4⟩
              obtain ⟨g, hg, rfl⟩ := map_at hv
              obtain ⟨p, hpp, hcp⟩ := Paired.get' hps hg
              have hp2 := fb.to (List.mem_of_getElem? hpp)
              refine ⟨g, _, rfl, hcp.ext0 (f3.trans e4), rfl, _, _, rfl, _, _, rfl, rfl, rfl, yes ?_⟩
              refine ⟨_, rfl, _, rfl, ct, _, _, _, rfl, rfl, .of ((e3.trans e4).at hct (by simp)), atI_nat (cnt_at hp2), ?_⟩
              refine ⟨_, hX2, ?_, ?_, e4.put hD2⟩
              · rw [List.length_map, List.length_map, List.length_take]
                exact small1000 (by omega)
              · rw [upd_same, List.take_add_one, hpp, List.map_append, List.map_append]
                rfl
            · rintro H4 ⟨hX2, e4⟩
              rw [List.length_map, plen, List.take_length, map_nV_int] at hX2
              refine ⟨D2, _, rfl, .of hX2, ?_, e4⟩
              rw [sum_nats, if_neg (by simp)]
        · rintro v H4 ⟨rfl, e4⟩
          refine ⟨_, e4.at hX (by simp), ?_, ?_, (e3.trans e4).put hD⟩
          · rw [List.length_map, List.length_map, List.length_range]
            exact small1000 (by omega)
          · rw [upd_same, List.range_succ, List.map_append, List.map_append]
            rfl
      · rintro H3 ⟨hX, e3⟩
        exact ⟨D, _, rfl, hX, e2.trans e3⟩
    · rintro σ H2 ⟨ct, y, rfl, hct, e2⟩
      exact ⟨_, rfl, q ct H2 hct (e1.trans e2)⟩
theorem sc_least_free : FnScope ["book", "counts", "state", "behind", "message", "to"] ["book"] (defScope s_least_free) := ⟨rfl, rfl, rfl, by decide +kernel, rfl, by decide +kernel, by decide +kernel⟩
theorem ok_least_free (T : Tx K mg) : FnOk P w K mg base CX0 5 T.least_free.f T.least_free.fd ["book"] (sp_law_win_free K) := by
  refine T.least_free.F.ok sc_least_free (fun vs H Q E h => ?_) (fun cdv A outer s H vs Q E hr h => ?_)
  · obtain ⟨v, b, rfl, _⟩ := h; rfl
  · obtain ⟨v, b, rfl, hb, ok, hne, q⟩ := h
    have fb := ok.toFormB
    have h8 := fb.eight
    obtain ⟨a, ls, rfl, ha, hls⟩ := id hb
    have llen := Paired.len hls
    obtain ⟨j0, hj0, hfork, hchain⟩ := chain_first ok hne
    refine ⟨_, (pss_cons (ps_if (pt_truth (pe_call (ok_forks_on_rings T) (hr.mono (by decide)) (by rfl) T.forks_on_rings.g T.forks_on_rings.F.kp T.forks_on_rings.b .nil pass0 (pa_cons (pv 0) pa_nil)) (by intro _; rfl))
        (pss_one (ps_ret pe_non))
        pss_nil)
      (pss_cons (ps_set (i := 1) sc_least_free.nd rfl (.inr rfl) (pe_call (ok_ray_counts T) (hr.mono (by decide)) (by rfl) T.ray_counts.g T.ray_counts.F.kp T.ray_counts.b .nil pass0 (pa_cons (pv 0) pa_nil)))
      (pss_cons (ps_set (i := 2) sc_least_free.nd rfl (.inl rfl) pe_int)
      (pss_cons (ps_while PassesOwn.never (pt_cmpR op_eq (pe_callB call_len_seq (by rfl) T.n_len PySem.boot_len (pa_cons (pe_ix ix_tup (pv 0) (pv 2) (fun _ _ => rfl)) pa_nil)) pe_int (nomark _))
        (pss_one (ps_set (i := 2) sc_least_free.nd rfl (.inl rfl) (pe_ix ix_tup (pe_ix ix_tup (pe_ix ix_tup (pv 0) (pv 2) (fun _ _ => rfl)) pe_int (fun _ _ => rfl)) pe_int (fun _ _ => rfl)))))
      (pss_cons (ps_setLc (i := 3) (own := [("message", 4), ("to", 5)]) rfl sc_least_free.nd rfl rfl (sw_true rfl rfl rfl (by decide +kernel)) (pi_tup (pe_ix ix_tup (pv 0) (pv 2) (fun _ _ => rfl))) (blkOk_by (own := [("message", 4), ("to", 5)]) (N := ["book", "counts", "state", "behind", "message", "to"]) (sc := defScope s_least_free) (by decide +kernel)) (fun _ _ _ _ _ => (pg_tupK (n := 2) K rfl (pgs_cons (pg_name (i := 4) sc_least_free.nd rfl (.inl rfl)) (pgs_cons (pg_name (i := 5) sc_least_free.nd rfl (.inl rfl)) pgs_nil)))) (fun _ _ _ _ _ => pts_nil) (fun _ _ _ _ _ => (pe_ix (ix_listK K) (pv 1) (pv 5) (fun _ _ => rfl))))
      (pss_cons (ps_if (PW.pt (pw_or (pt_cmpR op_gt (pe_callB (cr_sum rfl) (by rfl) T.n_sum (by decide +kernel) (pa_cons (pv 3) pa_nil)) pe_int (nomark _)) (pw_or1 (pt_cmpR op_gt (pe_callB (cr_max rfl) (by rfl) T.n_max (by decide +kernel) (pa_cons (pv 3) pa_nil)) pe_int (nomark _)))))
        (pss_one (ps_ret pe_int))
        pss_nil)
      (pss_one (ps_ret pe_int)))))))), ?_⟩
    refine ⟨_, rfl, .ref a, b, rfl, hb, fb, fun t H1 ht e1 => ⟨_, .inr (.inl ⟨_, ht, rfl⟩), ?_⟩⟩
    show (if (!((ringForksM b).map nV).isEmpty) = true then _ else _)
    have em : ((ringForksM b).map nV).isEmpty = (ringForksM b).isEmpty := by cases ringForksM b <;> rfl
    rw [em]
    unfold freeM at q
    by_cases hrf : ringForksM b = []
    · rw [if_pos hrf] at q
      rw [hrf]
      refine iteF ?_
      refine ⟨_, rfl, .ref a, b, rfl, hb.ext0 e1, fb, fun ct H2 hct e2 => ?_⟩
      have f2 := e1.trans e2
      refine ⟨fun m σ H' => ∃ s : Nat, σ = [some (.ref a), some (.ref ct), some (.int s), none, none, none] ∧ Chain b s m (firstF b) ∧ s < b.length ∧ H' = H2, ⟨j0, 0, rfl, hchain, fb.one, rfl⟩, ?_⟩
      rintro m σ H' ⟨s, rfl, hc, hs, rfl⟩
      obtain ⟨u, hu, c, ps, rfl, hcz, hps⟩ := Paired.get hls (mvs_lt hs)
      have plen := Paired.len hps
      have five := (fb.ok hs).few
      have hc2 : SqT K _ c (ps.map V.ref) := (f2.tz Lsts.nil hcz).sq
      refine ⟨_, rfl, _, rfl, a, _, _, _, rfl, rfl, f2.tup Lsts.nil ha, atI_nat hu, c, _, rfl, .inr hc2, rfl, _, rfl, ?_⟩
      have ed : decide (V.int ((ps.map V.ref).length : Int) = V.int 1) = decide ((mvs b s).length = 1) := by
        rw [dec_int, List.length_map, plen]
        exact decide_eq_decide.mpr (by omega)
      rw [ed]
      refine ifB (fun h1 => ?_) (fun h1 => ?_)
      · have h1 := of_decide_eq_true h1
        obtain ⟨p, j, hm, rfl, hc3⟩ := chain_go hc hfork (by omega)
        refine ⟨fun σ H'' => ∃ s : Nat, σ = [some (.ref a), some (.ref ct), some (.int s), none, none, none] ∧ Chain b s j (firstF b) ∧ s < b.length ∧ H'' = H', fun σ' H'' h => ⟨j, by omega, h⟩, ?_⟩
        rw [hm] at hps
        cases hps with
        | @cons g _ gs _ hg hgs =>
          exact ⟨_, rfl, _, rfl, a, _, _, _, rfl, rfl, f2.tup Lsts.nil ha, atI_nat hu, c, _, _, _, rfl, rfl, hc2, atI_nat (j := 0) rfl, g, _, _, _, rfl, rfl, hg.ext0 f2, atI_nat (j := 1) rfl, p.2, rfl, hc3, fb.to (s := s) (by rw [hm]; simp), rfl⟩
      · have h1 := of_decide_eq_false h1
        have hsf : s = firstF b := by
          by_cases h2 : 1 < (mvs b s).length
          · exact (chain_end hc h2).1
          · obtain ⟨p, j, hm, _⟩ := chain_go hc hfork h2
            rw [hm] at h1
            exact absurd rfl h1
        subst hsf
        refine ⟨_, rfl, _, rfl, a, _, _, _, rfl, rfl, f2.tup Lsts.nil ha, atI_nat hu, c, rfl, ⟨_, hc2⟩, fun D hD => ?_⟩
        refine lc_tup (K := K) (a := c) (xs := ps.map V.ref) (fun i H3 => H3 D = some (.lst ((((mvs b (firstF b)).take i).map fun p => cM b 9 p.2).map nV)) ∧ Ext [] H' H3) ⟨by simp; exact upd_same, .new hD⟩ (fun i H3 _ ⟨_, e⟩ => ((f2.trans e).tz Lsts.nil hcz).sq) ?_ ?_
        · rintro i v H3 hv ⟨hX, e⟩
          obtain ⟨g, hg, rfl⟩ := map_at hv
          obtain ⟨p, hpp, hcp⟩ := Paired.get' hps hg
          have hp2 := fb.to (List.mem_of_getElem? hpp)
          refine ⟨g, _, rfl, hcp.ext0 (f2.trans e), rfl, _, _, rfl, _, _, rfl, rfl, rfl, yes ?_⟩
          refine ⟨_, rfl, _, rfl, ct, _, _, _, rfl, rfl, .of (e.at hct (by simp)), atI_nat (cnt_at hp2), ?_⟩
          refine ⟨_, hX, ?_, ?_, e.put hD⟩
          · rw [List.length_map, List.length_map, List.length_take]
            exact small1000 (by omega)
          · rw [upd_same, List.take_add_one, hpp, List.map_append, List.map_append, c_len fb hp2]
            rfl
        · rintro H3 ⟨hX, e⟩
          rw [List.length_map, plen, List.take_length] at hX
          have hX : H3 D = some (.lst ((countL b).map nV)) := hX
          have hXi := hX
          rw [map_nV_int] at hXi
          have fin : ∀ x : Bool, x = decide (2 < (countL b).sum ∨ 2 ∈ countL b) → (x = true → Q (.int 3) H3) ∧ (x = false → Q (.int 2) H3) := fun x hx => by
            have := q H3 (f2.trans e)
            constructor
            · intro h
              rw [hx] at h
              rw [if_pos (of_decide_eq_true h)] at this
              exact this
            · intro h
              rw [hx] at h
              rw [if_neg (of_decide_eq_false h)] at this
              exact this
          refine ⟨_, rfl, D, _, rfl, .of hXi, _, _, rfl, rfl, _, rfl, ?_⟩
          rw [sum_nats]
          by_cases h3 : 2 < (countL b).sum
          · rw [decide_eq_true (show ((countL b).sum : Int) > 2 by omega)]
            exact iteT ((fin true (by rw [decide_eq_true (.inl h3)])).1 rfl)
          · rw [decide_eq_false (show ¬ ((countL b).sum : Int) > 2 by omega)]
            have cl : 0 < ((countL b).map fun n : Nat => (n : Int)).length := by
              unfold countL
              rw [List.length_map, List.length_map]
              have := fork_two hfork
              omega
            refine iteF ⟨_, rfl, D, _, rfl, .of hXi, cl, fun mx hmx hmax => ⟨_, _, rfl, rfl, _, rfl, ?_⟩⟩
            obtain ⟨m, hm, rfl⟩ := List.mem_map.mp hmx
            have key := most_two h3 hm fun y hy => by
              have := hmax (y : Int) (List.mem_map.mpr ⟨y, hy, rfl⟩)
              omega
            by_cases h2 : 2 ∈ countL b
            · rw [decide_eq_true (show (m : Int) > 1 by have := key.mpr h2; omega)]
              exact iteT ((fin true (by rw [decide_eq_true (.inr h2)])).1 rfl)
            · rw [decide_eq_false (show ¬ (m : Int) > 1 by intro z; exact h2 (key.mp (by omega)))]
              exact iteF ((fin false (by rw [decide_eq_false (fun z => z.elim h3 h2)])).2 rfl)
    · rw [if_neg hrf] at q
      have : (ringForksM b).isEmpty = false := by cases h : ringForksM b with | nil => exact absurd h hrf | cons _ _ => rfl
      rw [this]
      exact iteT (q _ e1)
end
end Nv
set_option Elab.async false
set_option linter.all false
set_option maxRecDepth 100000
namespace Nv
open PySem PySem.Spec PyProof.Rows L2
section
variable {P : Program} {w : World} {K : PySem.W.Frag} {mg : Str → Option Value} {base : Heap}
/-! ### windows, or none -/
theorem FnOk.or {P : Program} {w : World} {K : PySem.W.Frag} {mg : Str → Option Value} {base : Heap} {CX : CXT} {k : Nat} {f : Addr} {fd : FuncData} {ps : List Str} {sp1 sp2 sp : Sp} (F1 : FnOk P w K mg base CX k f fd ps sp1) (F2 : FnOk P w K mg base CX k f fd ps sp2)
    (h : ∀ vs H Q E, sp vs H Q E → sp1 vs H Q E ∨ sp2 vs H Q E) : FnOk P w K mg base CX k f fd ps sp :=
  ⟨fun vs H Q E z => (h vs H Q E z).elim (F1.len vs H Q E) (F2.len vs H Q E), fun A outer s H args us vs Q E a b c d z => (h vs H Q E z).elim (F1.run A outer s H args us vs Q E a b c d) (F2.run A outer s H args us vs Q E a b c d)⟩
/-- the least number for this window -/
noncomputable def lwF (b : Book) (W : Nat) : Nat := leastM b (Classical.choose (last_ex b W))
theorem lwF_eq {b : Book} {W : Nat} {res : List (Option Int)} {fin : List Nat} (h : LastM b W res fin) : leastM b res = lwF b W := by
  obtain ⟨fin', h'⟩ := Classical.choose_spec (last_ex b W)
  unfold lwF
  rw [last_fun h h']
theorem lwF_le (b : Book) (W : Nat) : lwF b W ≤ 3 := by
  unfold lwF leastM
  split
  · omega
  · split
    · omega
    · split <;> omega
/-- the window u, and the least number x for it -/
def WinR (b : Book) (u x : V) : Prop := (u = .non ∧ x = oN (leastN b)) ∨ ∃ W : Nat, u = .int W ∧ 1 ≤ W ∧ x = nV (lwF b W)
theorem winR_ex {b : Book} {u : V} (h : u = .non ∨ ∃ W : Nat, u = .int W ∧ 1 ≤ W) : ∃ x, WinR b u x := by
  rcases h with rfl | ⟨W, rfl, hW⟩
  · exact ⟨_, .inl ⟨rfl, rfl⟩⟩
  · exact ⟨_, .inr ⟨W, rfl, hW, rfl⟩⟩
def sp_winA (K : PySem.W.Frag) : Sp := fun vs H Q _ => ∃ (v u x : V) (b : Book), vs = [v, u] ∧ BkV K H v b ∧ OkB b ∧ WinR b u x ∧ ∀ H', Ext [] H H' → Q x H'

def sp_least_forN (K : PySem.W.Frag) : Sp := fun vs H Q _ => ∃ (v : V) (b : Book), vs = [v, .non] ∧ BkV K H v b ∧ OkB b ∧ ∀ (H' : Hp), Ext [] H H' → Q (oN (leastN b)) H'
theorem okN_least_for (T : Tx K mg) : FnOk P w K mg base CX0 6 T.least_for.f T.least_for.fd ["book", "window"] (sp_least_forN K) := by
  refine T.least_for.F.ok sc_least_for (fun vs H Q E h => ?_) (fun cdv A outer s H vs Q E hr h => ?_)
  · obtain ⟨v, b, rfl, _⟩ := h; rfl
  · obtain ⟨v, b, rfl, hb, ok, q⟩ := h
    have fb := ok.toFormB
    obtain ⟨a, ls, rfl, ha, hls⟩ := id hb
    obtain ⟨u, hu, c, ps, rfl, hc, hps⟩ := Paired.get hls (mvs_lt (b := b) (s := 0) fb.one)
    unfold leastN at q
    refine ⟨_, (pss_cons (ps_if (pt_not (pt_truth (pe_ix ix_tup (pv 0) pe_int (fun _ _ => rfl)) (by intro _; rfl)))
        (pss_one (ps_ret pe_int))
        pss_nil)
      (pss_cons (ps_if (pt_not (pt_truth (pe_call (ok_fork_states T) (hr.mono (by decide)) (by rfl) T.fork_states.g T.fork_states.F.kp T.fork_states.b .nil pass0 (pa_cons (pv 0) pa_nil)) (by intro _; rfl)))
        (pss_one (ps_ret pe_int))
        pss_nil)
      (pss_cons (ps_if (pt_cmpR op_isN (pv 1) pe_non (nomark _))
        (pss_one (ps_ret (pe_call (ok_least_free T) (hr.mono (by decide)) (by rfl) T.least_free.g T.least_free.F.kp T.least_free.b .nil pass0 (pa_cons (pv 0) pa_nil))))
        pss_nil)
      (pss_cons ps_never
      (pss_one ps_never))))), ?_⟩
    refine ⟨_, rfl, a, _, _, _, rfl, rfl, ha, atI_nat (j := 0) hu, _, .inr (.inl ⟨_, hc.sq, rfl⟩), ?_⟩
    show (if (!(!(ps.map V.ref).isEmpty)) = true then _ else _)
    have em : (ps.map V.ref).isEmpty = (mvs b 0).isEmpty := by
      have plen := Paired.len hps
      cases ps <;> cases h : mvs b 0 <;> rw [h] at plen <;> simp at plen <;> rfl
    rw [em, Bool.not_not]
    refine ifB (fun z => ?_) (fun z => ?_)
    · have z : mvs b 0 = [] := List.isEmpty_iff.mp z
      rw [if_pos z] at q
      exact q _ .refl
    · have z : mvs b 0 ≠ [] := fun y => by rw [y] at z; cases z
      rw [if_neg z] at q
      refine ⟨_, rfl, .ref a, b, rfl, hb, fb.eight, fun t H1 ht e1 => ⟨_, .inr (.inl ⟨_, ht, rfl⟩), ?_⟩⟩
      show (if (!(!((forksM b).map nV).isEmpty)) = true then _ else _)
      have em : ((forksM b).map nV).isEmpty = (forksM b).isEmpty := by cases forksM b <;> rfl
      rw [em, Bool.not_not]
      refine ifB (fun y => ?_) (fun y => ?_)
      · have y : forksM b = [] := List.isEmpty_iff.mp y
        rw [if_pos y] at q
        exact q _ e1
      · have y : forksM b ≠ [] := fun x => by rw [x] at y; cases y
        rw [if_neg y] at q
        refine ⟨_, rfl, rfl, _, rfl, ?_⟩
        rw [decide_eq_true (show V.non = V.non from rfl)]
        exact iteT ⟨_, rfl, .ref a, b, rfl, hb.ext0 e1, ok, y, fun H' e => q H' (e1.trans e)⟩
theorem okA_least_for (T : Tx K mg) : FnOk P w K mg base CX0 6 T.least_for.f T.least_for.fd ["book", "window"] (sp_winA K) :=
  FnOk.or (ok_least_for T) (okN_least_for T) fun vs H Q E ⟨v, u, x, b, e, hb, ok, hw, q⟩ => by
    rcases hw with ⟨rfl, rfl⟩ | ⟨W, rfl, hW, rfl⟩
    · exact .inr ⟨v, b, e, hb, ok, q⟩
    · exact .inl ⟨v, b, W, e, hb, ok.toFormB, hW, fun res fin H' hL e => by rw [lwF_eq hL]; exact q H' e⟩

theorem okA_least_wires (T : Tx K mg) : FnOk P w K mg base CX0 7 T.least_wires.f T.least_wires.fd ["book", "window"] (sp_winA K) := by
  refine T.least_wires.F.ok sc_least_wires (fun vs H Q E h => ?_) (fun cdv A outer s H vs Q E hr h => ?_)
  · obtain ⟨v, u, x, b, rfl, _⟩ := h; rfl
  · obtain ⟨v, u, x, b, rfl, hb, ok, hw, q⟩ := h
    refine ⟨_, (pss_cons (ps_expr (pe_call (ok_made_book T) (hr.mono (by decide)) (by rfl) T.made_book.g T.made_book.F.kp T.made_book.b .nil pass0 (pa_cons (pv 0) pa_nil)))
      (pss_cons (ps_expr (pe_call (okA_made_window T) (hr.mono (by decide)) (by rfl) T.made_window.g T.made_window.F.kp T.made_window.b .nil pass0 (pa_cons (pv 1) pa_nil)))
      (pss_one (ps_ret (pe_call (okA_least_for T) (hr.mono (by decide)) (by rfl) T.least_for.g T.least_for.F.kp T.least_for.b .nil pass0 (pa_cons (pv 0) (pa_cons (pv 1) pa_nil))))))), ?_⟩
    refine ⟨_, rfl, v, b, rfl, hb, ok, fun H1 e1 => ?_⟩
    have hu : u = .non ∨ ∃ i : Int, u = .int i ∧ 1 ≤ i := by
      rcases hw with ⟨rfl, _⟩ | ⟨W, rfl, hW, _⟩
      · exact .inl rfl
      · exact .inr ⟨W, rfl, by omega⟩
    exact ⟨_, rfl, u, rfl, hu, _, rfl, _, rfl, v, u, x, b, rfl, hb.ext0 e1, ok, hw, fun H' e => q H' (e1.trans e)⟩
/-- the least numbers for the windows 1 to 9 -/
noncomputable def nineL (b : Book) : List Nat := (List.range 9).map fun i => lwF b (i + 1)
theorem sc_verdict : FnScope ["book", "window"] ["book"] (defScope s_verdict) := ⟨rfl, rfl, rfl, by decide +kernel, rfl, by decide +kernel, by decide +kernel⟩
def sp_verdict (K : PySem.W.Frag) : Sp := fun vs H Q _ => ∃ (v : V) (b : Book), vs = [v] ∧ BkV K H v b ∧ OkB b ∧ ∀ (t t1 : Addr) (H' : Hp), SqT K H' t [.ref t1, oN (leastN b)] → SqT K H' t1 ((nineL b).map nV) → Ext [] H H' → Q (.ref t) H'
theorem ok_verdict (T : Tx K mg) : FnOk P w K mg base CX0 7 T.verdict.f T.verdict.fd ["book"] (sp_verdict K) := by
  refine T.verdict.F.ok sc_verdict (fun vs H Q E h => ?_) (fun cdv A outer s H vs Q E hr h => ?_)
  · obtain ⟨v, b, rfl, _⟩ := h; rfl
  · obtain ⟨v, b, rfl, hb, ok, q⟩ := h
    refine ⟨_, (pss_cons (ps_expr (pe_call (ok_made_book T) (hr.mono (by decide)) (by rfl) T.made_book.g T.made_book.F.kp T.made_book.b .nil pass0 (pa_cons (pv 0) pa_nil)))
      (pss_one (ps_ret (pe_tup (pa_cons (pe_callTy call_tupZ (by rfl) T.n_tuple (by decide +kernel) (pa_cons (pe_lc (own := [("window", 1)]) rfl sc_verdict.nd (pi_range2 (by rfl) T.n_range (pa_cons pe_int (pa_cons (pe_op op_add (pe_glob (v := .int 9) (by rfl) T.c_LAST_WINDOW.choose_spec ⟨_, rfl⟩) pe_int) pa_nil))) (blkOk_by (own := [("window", 1)]) (N := ["book", "window"]) (sc := defScope s_verdict) (by decide +kernel)) (fun _ _ _ _ _ => (pg_name (i := 1) sc_verdict.nd rfl (.inl rfl))) (fun _ _ _ _ _ => pts_nil) (fun _ _ _ _ _ => (pe_call (okA_least_for T) (hr.mono (by decide)) (by rfl) T.least_for.g T.least_for.F.kp T.least_for.b .nil pass0 (pa_cons (pv 0) (pa_cons (pv 1) pa_nil))))) pa_nil)) (pa_cons (pe_call (okA_least_for T) (hr.mono (by decide)) (by rfl) T.least_for.g T.least_for.F.kp T.least_for.b .nil pass0 (pa_cons (pv 0) (pa_cons pe_non pa_nil))) pa_nil)))))), ?_⟩
    refine ⟨_, rfl, v, b, rfl, hb, ok, fun H1 e1 => ?_⟩
    refine ⟨_, _, rfl, rfl, 1, 10, rfl, ⟨by decide, by decide, by decide, by decide⟩, fun D hD => ?_⟩
    refine lc_range (lo := 1) (n := 9) (fun i H' => H' D = some (.lst (((List.range i).map fun i => lwF b (i + 1)).map nV)) ∧ Ext [] H1 H') ⟨upd_same, .new hD⟩ ?_ ?_
    · rintro m H' hm ⟨hX, e⟩
      have em : (1 : Int) + (m : Int) = ((m + 1 : Nat) : Int) := by omega
      rw [em]
      refine ⟨rfl, yes ?_⟩
      refine ⟨_, rfl, _, rfl, v, _, _, b, rfl, hb.ext0 (e1.trans e), ok, .inr ⟨m + 1, rfl, by omega, rfl⟩, fun H2 e2 => ?_⟩
      refine ⟨_, e2.at hX (by simp), ?_, ?_, (e.trans e2).put hD⟩
      · rw [List.length_map, List.length_map, List.length_range]
        exact small1000 (by omega)
      · rw [upd_same, List.range_succ, List.map_append, List.map_append]
        rfl
    · rintro H2 ⟨hX, e2⟩
      have hX : H2 D = some (.lst ((nineL b).map nV)) := hX
      refine ⟨D, _, rfl, .of hX, fun t1 H3 ht1 hH3 => ?_⟩
      obtain ⟨o, _, rfl⟩ := hH3
      have e3 : Ext [] H2 (upd H2 t1 (.frz o (.tup ((nineL b).map nV)))) := .new ht1
      refine ⟨_, rfl, v, .non, _, b, rfl, hb.ext0 ((e1.trans e2).trans e3), ok, .inl ⟨rfl, rfl⟩, fun H4 e4 => ⟨(by show 2 ≤ sizeLine; decide), fun t ht => ?_⟩⟩
      have e5 : Ext [] H4 (upd H4 t (.tup [.ref t1, oN (leastN b)])) := .new ht
      exact q t t1 _ (.of upd_same) ((e4.trans e5).tup Lsts.nil (.inl (.inr ⟨o, upd_same⟩))) ((((e1.trans e2).trans e3).trans e4).trans e5)
end
end Nv
set_option Elab.async false
set_option linter.all false
set_option maxRecDepth 100000
namespace Nv
open PySem PySem.Spec PyProof.Rows L2
section
variable {P : Program} {w : World} {K : PySem.W.Frag} {mg : Str → Option Value} {base : Heap}
/-! ### refusals of the least numbers -/

theorem okX_from_window (T : Tx K mg) : FnOk P w K mg base (L2.CX P w) 7 T.from_window.f T.from_window.fd ["book"] (sp_refused K T.x_BadBook.C T.x_Stray.C) := by
  refine T.from_window.F.okX sc_from_window (fun vs H Q E h => ?_) (fun cdv A outer s H vs Q E hr h => ?_)
  · obtain ⟨v, d, C, e, rfl, _⟩ := h; rfl
  · obtain ⟨v, d, C, e, rfl, hd, href, q⟩ := h
    refine ⟨_, (pss_cons (ps_expr (pe_call (okX_made_book T) (hr.mono (by decide)) (by rfl) T.made_book.g T.made_book.F.kp T.made_book.b .nil (passes_call (takes_of rfl rfl rfl rfl) (fun _ _ _ _ h => h)) (pa_cons (pv 0) pa_nil)))
      (PSs.nox (pss_cons (ps_for PassesOwn.never rfl (pi_range2 (by rfl) T.n_range (pa_cons pe_int (pa_cons (pe_op op_add (pe_glob (v := .int 9) (by rfl) T.c_LAST_WINDOW.choose_spec ⟨_, rfl⟩) pe_int) pa_nil))) (pg_name (i := 1) sc_from_window.nd rfl (.inl rfl))
        (pss_one (ps_if (pt_cmpR op_eq (pe_call (okA_least_for T) (hr.mono (by decide)) (by rfl) T.least_for.g T.least_for.F.kp T.least_for.b .nil pass0 (pa_cons (pv 0) (pa_cons (pv 1) pa_nil))) pe_int (nomark _))
          (pss_one (ps_ret (pv 1)))
          pss_nil)))
      (pss_one (ps_ret pe_non))))), ?_⟩
    exact ⟨_, rfl, v, d, C, e, rfl, hd, href, q⟩

theorem okX_verdict (T : Tx K mg) : FnOk P w K mg base (L2.CX P w) 7 T.verdict.f T.verdict.fd ["book"] (sp_refused K T.x_BadBook.C T.x_Stray.C) := by
  refine T.verdict.F.okX sc_verdict (fun vs H Q E h => ?_) (fun cdv A outer s H vs Q E hr h => ?_)
  · obtain ⟨v, d, C, e, rfl, _⟩ := h; rfl
  · obtain ⟨v, d, C, e, rfl, hd, href, q⟩ := h
    refine ⟨_, (pss_cons (ps_expr (pe_call (okX_made_book T) (hr.mono (by decide)) (by rfl) T.made_book.g T.made_book.F.kp T.made_book.b .nil (passes_call (takes_of rfl rfl rfl rfl) (fun _ _ _ _ h => h)) (pa_cons (pv 0) pa_nil)))
      (PSs.nox (pss_one (ps_ret (pe_tup (pa_cons (pe_callTy call_tupZ (by rfl) T.n_tuple (by decide +kernel) (pa_cons (pe_lc (own := [("window", 1)]) rfl sc_verdict.nd (pi_range2 (by rfl) T.n_range (pa_cons pe_int (pa_cons (pe_op op_add (pe_glob (v := .int 9) (by rfl) T.c_LAST_WINDOW.choose_spec ⟨_, rfl⟩) pe_int) pa_nil))) (blkOk_by (own := [("window", 1)]) (N := ["book", "window"]) (sc := defScope s_verdict) (by decide +kernel)) (fun _ _ _ _ _ => (pg_name (i := 1) sc_verdict.nd rfl (.inl rfl))) (fun _ _ _ _ _ => pts_nil) (fun _ _ _ _ _ => (pe_call (okA_least_for T) (hr.mono (by decide)) (by rfl) T.least_for.g T.least_for.F.kp T.least_for.b .nil pass0 (pa_cons (pv 0) (pa_cons (pv 1) pa_nil))))) pa_nil)) (pa_cons (pe_call (okA_least_for T) (hr.mono (by decide)) (by rfl) T.least_for.g T.least_for.F.kp T.least_for.b .nil pass0 (pa_cons (pv 0) (pa_cons pe_non pa_nil))) pa_nil))))))), ?_⟩
    exact ⟨_, rfl, v, d, C, e, rfl, hd, href, q⟩
/-- no book, or no window (None is let) -/
def RefBO (K : PySem.W.Frag) (CB CS CW : Addr) (H : Hp) (E : XK) (v u : V) : Prop := (∃ (d : PyData) (C : Addr) (e : Int), Dp K H v d ∧ Ref CB CS d C e ∧ Outs H E C e) ∨ (∃ (b : Book) (d : PyData), BkV K H v b ∧ OkB b ∧ Dp K H u d ∧ winD d = false ∧ OutsV H E CW (.int 0))
def sp_leastX (K : PySem.W.Frag) (CB CS CW : Addr) : Sp := fun vs H _ E => ∃ (v u : V), vs = [v, u] ∧ RefBO K CB CS CW H E v u

theorem okX_least_wires (T : Tx K mg) : FnOk P w K mg base (L2.CX P w) 7 T.least_wires.f T.least_wires.fd ["book", "window"] (sp_leastX K T.x_BadBook.C T.x_Stray.C T.x_BadWindow.C) := by
  refine T.least_wires.F.okX sc_least_wires (fun vs H Q E h => ?_) (fun cdv A outer s H vs Q E hr h => ?_)
  · obtain ⟨v, u, rfl, _⟩ := h; rfl
  · obtain ⟨v, u, rfl, ⟨d, C, e, hd, href, q⟩ | ⟨b, d, hb, ok, hd, hn, q⟩⟩ := h
    · refine ⟨_, (pss_cons (ps_expr (pe_call (okX_made_book T) (hr.mono (by decide)) (by rfl) T.made_book.g T.made_book.F.kp T.made_book.b .nil (passes_call (takes_of rfl rfl rfl rfl) (fun _ _ _ _ h => h)) (pa_cons (pv 0) pa_nil)))
      (PSs.nox (pss_cons (ps_expr (pe_call (okA_made_window T) (hr.mono (by decide)) (by rfl) T.made_window.g T.made_window.F.kp T.made_window.b .nil pass0 (pa_cons (pv 1) pa_nil)))
      (pss_one (ps_ret (pe_call (okA_least_for T) (hr.mono (by decide)) (by rfl) T.least_for.g T.least_for.F.kp T.least_for.b .nil pass0 (pa_cons (pv 0) (pa_cons (pv 1) pa_nil)))))))), ?_⟩
      exact ⟨_, rfl, v, d, C, e, rfl, hd, href, q⟩
    · refine ⟨_, (pss_cons (ps_expr (pe_call (ok_made_book T) (hr.mono (by decide)) (by rfl) T.made_book.g T.made_book.F.kp T.made_book.b .nil pass0 (pa_cons (pv 0) pa_nil)))
      (pss_cons (ps_expr (pe_call (okX_made_window T) (hr.mono (by decide)) (by rfl) T.made_window.g T.made_window.F.kp T.made_window.b .nil (passes_call (takes_of rfl rfl rfl rfl) (fun _ _ _ _ h => h)) (pa_cons (pv 1) pa_nil)))
      (PSs.nox (pss_one (ps_ret (pe_call (okA_least_for T) (hr.mono (by decide)) (by rfl) T.least_for.g T.least_for.F.kp T.least_for.b .nil pass0 (pa_cons (pv 0) (pa_cons (pv 1) pa_nil)))))))), ?_⟩
      exact ⟨_, rfl, v, b, rfl, hb, ok, fun H1 e1 => ⟨_, rfl, u, d, rfl, Dp.ext0 e1 hd, (fun z => by rw [hn] at z; cases z), fun _ => q.ext e1⟩⟩
end
end Nv
set_option Elab.async false
set_option linter.all false
set_option maxRecDepth 100000
namespace Nv
open PySem PySem.Spec PyProof.Rows L2
section
variable {P : Program} {w : World} {K : PySem.W.Frag} {mg : Str → Option Value} {base : Heap}
/-! ### the rows of the program, told by the state -/
/-- an entry: a state, and a row that comes to it -/
def RowS (K : PySem.W.Frag) (b : Book) (H : Hp) (m : Nat) (e : Key × V) : Prop := ∃ (x : Addr) (r : List Nat) (k : Nat), e = (kN k, .ref x) ∧ SqT K H x (r.map nV) ∧ r.length ≤ m ∧ atM b 0 r = some k

def sp_first_rowsS (K : PySem.W.Frag) : Sp := fun vs H Q _ => ∃ (v : V) (b : Book), vs = [v, .int 0] ∧ BkW K H v b ∧ FormB b ∧ ∀ (F : List Nat) (kvs : List (Key × V)) (d : Addr) (H' : Hp), Met b F → kvs.map (·.1) = F.map kN → H' d = some (.dK kvs) → (∀ e ∈ kvs, RowS K b H' 8 e) → Ext [] H H' → H d = none → Q (.ref d) H'
theorem okS_first_rows (T : Tx K mg) : FnOk P w K mg base CX0 1 T.first_rows.f T.first_rows.fd ["states", "start"] (sp_first_rowsS K) := by
  refine T.first_rows.F.ok sc_first_rows (fun vs H Q E h => ?_) (fun cdv A outer s H vs Q E hr h => ?_)
  · obtain ⟨v, b, rfl, _⟩ := h; rfl
  · obtain ⟨v, b, rfl, ⟨a, ls, rfl, ha, hls⟩, ok, q⟩ := h
    have llen := Paired.len hls
    have h8 := ok.eight
    refine ⟨_, (pss_cons (ps_set (i := 2) sc_first_rows.nd rfl (.inl rfl) (pe_disp (pps_cons (pv 1) (pe_tup pa_nil) pps_nil) (by rfl) (by rfl) (fun z => by cases z) (by decide)))
      (pss_cons (ps_set (i := 3) sc_first_rows.nd rfl (.inl rfl) (pe_lst (pa_cons (pv 1) pa_nil)))
      (pss_cons (ps_set (i := 4) sc_first_rows.nd rfl (.inl rfl) pe_int)
      (pss_cons (ps_while PassesOwn.never (pt_cmpR op_lt (pv 4) (pe_callB call_len_seq (by rfl) T.n_len PySem.boot_len (pa_cons (pv 3) pa_nil)) (nomark _))
        (pss_cons (ps_set (i := 5) sc_first_rows.nd rfl (.inl rfl) (pe_ix ix_list (pv 3) (pv 4) (fun _ _ => rfl)))
        (pss_cons (ps_aug (i := 4) sc_first_rows.nd rfl (.inl rfl) pe_int ip_add)
        (pss_one (ps_for PassesOwn.never rfl (pi_tup (pe_ix ix_tup (pv 0) (pv 5) (fun _ _ => rfl))) (pg_tup rfl (pgs_cons (pg_name (i := 6) sc_first_rows.nd rfl (.inl rfl)) (pgs_cons (pg_name (i := 7) sc_first_rows.nd rfl (.inl rfl)) pgs_nil)))
          (pss_one (ps_if (pt_cmp (pc_dnotin (hu_of hr) (pv 7) (pv 2)))
            (pss_cons (ps_dput (hu_of hr) (pv 2) (pv 7) (pe_op op_catA (pe_dget (hu_of hr) (pv 2) (pv 5) (fun _ _ => rfl)) (pe_tup (pa_cons (pv 6) pa_nil))) rfl)
            (pss_one (ps_expr (pe_bm PySem.F.plainAttrs_list PySem.F.slot_list_append PySem.F.type_list_append mt_append (pv 3) (pa_cons (pv 7) pa_nil)))))
            pss_nil)))))))
      (pss_one (ps_ret (pv 2))))))), ?_⟩
    -- rows = {0: ()}
    refine fun d hd => ⟨_, rfl, Nat.zero_le _, fun t ht => ?_⟩
    have e1 : Ext [] H (upd H d (.dK [])) := .new hd
    have e2 := e1.trans (Ext.new (L := []) (o := .tup []) ht)
    have dt : d ≠ t := fun z => by rw [← z, upd_same] at ht; cases ht
    refine ⟨by rw [upd_ne dt, upd_same], [(kN 0, .ref t)], rfl, (by show 1 ≤ 15; decide), ?_⟩
    have e3 := e2.put (o := .dK (mergeK [] [(kN 0, .ref t)])) hd
    have hd3 : upd (upd (upd H d (.dK [])) t (.tup [])) d (.dK (mergeK [] [(kN 0, .ref t)])) d = some (.dK [(kN 0, .ref t)]) := upd_same
    have ht3 : upd (upd (upd H d (.dK [])) t (.tup [])) d (.dK (mergeK [] [(kN 0, .ref t)])) t = some (.tup []) := by rw [upd_ne dt.symm, upd_same]
    generalize upd (upd (upd H d (.dK [])) t (.tup [])) d (.dK (mergeK [] [(kN 0, .ref t)])) = H3 at *
    -- order = [0]
    refine ⟨_, rfl, (by show 1 ≤ sizeLine; decide), fun o ho => ?_⟩
    have ho0 : H o = none := e3.free ho
    have od : d ≠ o := ne_of_none hd3 ho
    have e4 := e3.put2 (o := .lst [.int 0]) ho
    -- the loop
    let Row : Hp → Nat → Key × V → Prop := RowS K b
    refine ⟨fun m σ H' => ∃ (F : List Nat) (kvs : List (Key × V)) (i : Nat) (y4 y5 y6 : Option V), σ = [some (.ref a), some (.int 0), some (.ref d), some (.ref o), some (.int i), y4, y5, y6] ∧ MetI b F i ∧ m = b.length - i ∧ H' o = some (.lst (F.map nV)) ∧ H' d = some (.dK kvs) ∧ kvs.map (·.1) = F.map kN ∧ (∀ e ∈ kvs, Row H' F.length e) ∧ Ext [] H H',
      ⟨_, [0], [(kN 0, .ref t)], 0, _, _, _, rfl, .first ok.one, rfl, upd_same, by rw [upd_ne od]; exact hd3, rfl, fun e he => ?_, e4⟩, ?_⟩
    · obtain rfl := List.mem_singleton.mp he
      have ot : t ≠ o := ne_of_none ht3 ho
      exact ⟨t, [], 0, rfl, .of (by rw [upd_ne ot]; exact ht3), Nat.zero_le _, rfl⟩
    rintro m σ H' ⟨F, kvs, i, y4, y5, y6, rfl, mi, rfl, hF, hD, hk, hrow, e⟩
    have Fle : F.length ≤ b.length := nodup_le mi.nd mi.lt
    refine ⟨_, rfl, _, rfl, o, _, rfl, .inl (.of hF), _, _, rfl, rfl, _, rfl, ite2 (fun z => ?_) (fun z => ?_)⟩
    · have z := of_decide_eq_true z
      rw [List.length_map] at z
      have hiF : i < F.length := by omega
      have hs : F[i]? = some F[i] := List.getElem?_eq_getElem hiF
      generalize F[i] = x at hs
      have hx : x < b.length := mi.lt x (List.mem_of_getElem? hs)
      obtain ⟨u, hu, c, ps, rfl, hc, hps⟩ := Paired.get hls (mvs_lt hx)
      have plen := Paired.len hps
      refine ⟨fun σ H' => ∃ (F : List Nat) (kvs : List (Key × V)) (y4 y5 y6 : Option V), σ = [some (.ref a), some (.int 0), some (.ref d), some (.ref o), some (.int (i + 1 : Nat)), y4, y5, y6] ∧ MetI b F (i + 1) ∧ H' o = some (.lst (F.map nV)) ∧ H' d = some (.dK kvs) ∧ kvs.map (·.1) = F.map kN ∧ (∀ e ∈ kvs, Row H' F.length e) ∧ Ext [] H H', ?_, ?_⟩
      · rintro σ' H' ⟨F, kvs, y4, y5, y6, rfl, mi, r⟩
        exact ⟨b.length - (i + 1), by omega, F, kvs, i + 1, _, _, _, rfl, mi, rfl, r⟩
      refine ⟨_, rfl, _, rfl, o, _, _, _, rfl, rfl, .of hF, atI_nat (at_map hs), ?_⟩
      refine ⟨_, rfl, _, _, rfl, rfl, ?_⟩
      refine ⟨_, rfl, _, rfl, a, _, _, _, rfl, rfl, e.tup Lsts.nil ha, atI_nat hu, c, rfl, ⟨_, (e.tup Lsts.nil hc)⟩, ?_⟩
      refine for_tup (K := K) (a := c) (xs := ps.map V.ref) (fun k σ H' => ∃ (F : List Nat) (kvs : List (Key × V)) (y5 y6 : Option V), σ = [some (.ref a), some (.int 0), some (.ref d), some (.ref o), some (.int ((i : Int) + 1)), some (nV x), y5, y6] ∧ MetW b F i x k ∧ H' o = some (.lst (F.map nV)) ∧ H' d = some (.dK kvs) ∧ kvs.map (·.1) = F.map kN ∧ (∀ e ∈ kvs, Row H' F.length e) ∧ Ext [] H H')
        ⟨F, kvs, _, _, rfl, mi.begin hs, hF, hD, hk, hrow, e⟩ (fun k σ H' _ ⟨_, _, _, _, _, _, _, _, _, _, e⟩ => (e.tup Lsts.nil hc)) ?_ ?_
      · rintro k v σ H' hv ⟨F, kvs, y5, y6, rfl, mw, hF, hD, hk, hrow, e⟩
        obtain ⟨g, hg, rfl⟩ := map_at hv
        obtain ⟨p, hp, hcp⟩ := Paired.get' hps hg
        have hcp := hcp.ext0 e
        have Fle : F.length ≤ b.length := nodup_le mw.nd mw.lt
        have pb : p.2 < b.length := ok.to (List.mem_of_getElem? hp)
        refine ⟨g, _, rfl, hcp, rfl, _, _, rfl, _, _, rfl, rfl, ?_⟩
        refine ⟨_, rfl, _, rfl, d, _, rfl, DGet.k (k := kN p.2) hD, _, rfl, ?_⟩
        rw [valV_key hk]
        by_cases hin : p.2 ∈ F
        · rw [decide_eq_true hin]
          exact iteF ⟨F, kvs, _, _, rfl, mw.skip hp hin, hF, hD, hk, hrow, e⟩
        · rw [decide_eq_false hin]
          refine iteT ?_
          -- rows[state] + (message,)
          have xin : x ∈ F := List.mem_of_getElem? mw.here
          have hsome : (valV kvs (kN x)).isSome = true := by rw [valV_key hk]; exact decide_eq_true xin
          obtain ⟨rv, hrv⟩ := Option.isSome_iff_exists.mp hsome
          obtain ⟨r, rs, kx, er, hr1, hr2, hr3⟩ := hrow _ (valV_mem hrv)
          have ek : x = kx := kN_inj.mp (congrArg Prod.fst er)
          have er : rv = .ref r := congrArg Prod.snd er
          subst er
          subst ek
          have hat : atM b 0 (rs ++ [p.1]) = some p.2 := by
            rw [at_snoc _ _ _ _ hr3]
            exact next_mem ok (List.mem_of_getElem? hp)
          have newk : valV kvs (kN p.2) = none := by
            have := valV_key hk p.2
            rw [decide_eq_false hin] at this
            cases h : valV kvs (kN p.2) with
            | none => rfl
            | some z => rw [h] at this; cases this
          have klen : kvs.length = F.length := by have := congrArg List.length hk; simpa using this
          -- behind the new row: the dict, the list
          have fin : ∀ (nr : Addr) (ys : List Nat) (H4 : Hp), Ext [] H' H4 → SqT K H4 nr (ys.map nV) → ys.length ≤ F.length + 1 → atM b 0 ys = some p.2 → ∃ H5, DPut H4 d (.int p.2) (.ref nr) H5 ∧
              ∃ q5 : H5 = upd H4 d (.dK (kvs ++ [(kN p.2, .ref nr)])), H5 o = some (.lst (F.map nV)) ∧ H5 d = some (.dK (kvs ++ [(kN p.2, .ref nr)])) ∧ (∀ e ∈ kvs ++ [(kN p.2, .ref nr)], Row H5 (F.length + 1) e) ∧ Ext [] H H5 := by
            intro nr ys H4 e4 hn hl hya
            have hD4 := e4.at hD (by simp)
            have hF4 := e4.at hF (by simp)
            refine ⟨_, DPut.k (k := kN p.2) hD4 (small1000 (by omega)), by rw [putK_new _ newk], ?_⟩
            rw [putK_new _ newk]
            have ee : Ext [d] H4 (upd H4 d (.dK (kvs ++ [(kN p.2, .ref nr)]))) := .wr (by simp)
            refine ⟨by rw [upd_ne od.symm]; exact hF4, upd_same, fun z hz => ?_, (e.trans e4).put hd⟩
            rcases List.mem_append.mp hz with hz | hz
            · obtain ⟨x, xs, kz, h1, h2, h3, h4⟩ := hrow z hz
              exact ⟨x, xs, kz, h1, ee.tup (one_dk hD4) (e4.tup Lsts.nil h2), by omega, h4⟩
            · obtain rfl := List.mem_singleton.mp hz
              exact ⟨nr, ys, p.2, rfl, ee.tup (one_dk hD4) hn, hl, hya⟩
          have last : ∀ (nr : Addr) (H5 : Hp), H5 o = some (.lst (F.map nV)) → H5 d = some (.dK (kvs ++ [(kN p.2, .ref nr)])) → (∀ e ∈ kvs ++ [(kN p.2, .ref nr)], Row H5 (F.length + 1) e) → Ext [] H H5 →
              ∃ (F' : List Nat) (kvs' : List (Key × V)) (y5 y6 : Option V), [some (.ref a), some (.int 0), some (.ref d), some (.ref o), some (.int ((i : Int) + 1)), some (nV x), some (.int p.1), some (.int p.2)] = [some (.ref a), some (.int 0), some (.ref d), some (.ref o), some (.int ((i : Int) + 1)), some (nV x), y5, y6] ∧
                MetW b F' i x (k + 1) ∧ upd H5 o (.lst (F.map nV ++ [.int p.2])) o = some (.lst (F'.map nV)) ∧ upd H5 o (.lst (F.map nV ++ [.int p.2])) d = some (.dK kvs') ∧ kvs'.map (·.1) = F'.map kN ∧ (∀ e ∈ kvs', Row (upd H5 o (.lst (F.map nV ++ [.int p.2]))) F'.length e) ∧ Ext [] H (upd H5 o (.lst (F.map nV ++ [.int p.2]))) := by
            intro nr H5 h1 h2 h3 h4
            refine ⟨F ++ [p.2], kvs ++ [(kN p.2, .ref nr)], _, _, rfl, mw.push hp hin pb, by rw [upd_same, List.map_append]; rfl, by rw [upd_ne od]; exact h2, by rw [List.map_append, List.map_append, hk]; rfl, fun z hz => ?_, h4.put ho0⟩
            obtain ⟨x, xs, kz, g1, g2, g3, g4⟩ := h3 z hz
            exact ⟨x, xs, kz, g1, Ext.tup (L := [o]) (.wr (by simp)) (one_lst h1) g2, by rw [List.length_append]; exact g3, g4⟩
          refine ⟨_, rfl, _, rfl, d, _, rfl, by rw [← hrv]; exact DGet.k (k := kN x) hD, _, rfl, (by show 1 ≤ sizeLine; decide), fun g2 hg2 => ?_⟩
          have e5 : Ext [] H' (upd H' g2 (.tup [.int p.1])) := .new hg2
          refine ⟨r, g2, rs.map nV, _, rfl, rfl, e5.tup Lsts.nil hr1, .of upd_same, ?_, fun h0 => ?_, fun _ h0 => (by cases h0), fun _ _ g3 hg3 => ?_⟩
          · rw [List.length_map]
            exact Nat.le_of_lt (small1000 (by show rs.length + 1 ≤ 1000; omega))
          · have h0 : rs = [] := List.map_eq_nil_iff.mp h0
            obtain ⟨H5, dp, _, f1, f2, f3, f4⟩ := fin g2 [p.1] _ e5 (.of upd_same) (by simp) (by rw [h0] at hat; exact hat)
            refine ⟨_, rfl, _, rfl, d, H5, rfl, dp, ?_⟩
            exact ⟨_, rfl, .inl ⟨rfl, _, .of f1⟩, _, rfl, o, _, _, rfl, rfl, f1, by rw [List.length_map]; exact small1000 (by omega), last g2 H5 f1 f2 f3 f4⟩
          · obtain ⟨H5, dp, _, f1, f2, f3, f4⟩ := fin g3 (rs ++ [p.1]) _ (e5.put2 hg3) (by rw [List.map_append]; exact .of upd_same) (by rw [List.length_append]; show rs.length + 1 ≤ _; omega) hat
            refine ⟨_, rfl, _, rfl, d, H5, rfl, dp, ?_⟩
            exact ⟨_, rfl, .inl ⟨rfl, _, .of f1⟩, _, rfl, o, _, _, rfl, rfl, f1, by rw [List.length_map]; exact small1000 (by omega), last g3 H5 f1 f2 f3 f4⟩
      · rintro σ H' ⟨F, kvs, y5, y6, rfl, mw, hF, hD, hk, hrow, e⟩
        exact ⟨F, kvs, _, _, _, by rw [Int.natCast_add]; rfl, mw.done (by rw [List.length_map, plen]; exact Nat.le_refl _), hF, hD, hk, hrow, e⟩
    · have z : ¬ ((i : Int) < ((F.map nV).length : Int)) := fun y => z (decide_eq_true y)
      rw [List.length_map] at z
      have := mi.le
      exact ⟨_, rfl, q F kvs d H' (mi.met (.inl (by omega))) hk hD (fun z hz => by
        obtain ⟨x, xs, kz, g1, g2, g3, g4⟩ := hrow z hz
        exact ⟨x, xs, kz, g1, g2, by omega, g4⟩) e hd⟩
end
end Nv
set_option Elab.async false
set_option linter.all false
set_option maxRecDepth 100000
namespace Nv
open PySem PySem.Spec PyProof.Rows L2
section
variable {P : Program} {w : World} {K : PySem.W.Frag} {mg : Str → Option Value} {base : Heap}
/-! ### cut rows, the program's -/
theorem pe_frz {X : Cx} {e : Expr} {t : TE} (h : PE X e t) : PE X e (fun σ H Q => t σ H fun x H1 => ∃ (d : Addr) (kvs : List (Key × V)), x = .ref d ∧ H1 d = some (.dK kvs) ∧ ∀ od, Q x (upd H1 d (.frz od (.dK kvs)))) :=
  ⟨fun pins s σ H Q I hw => thn (h.run pins s σ H _ I hw) fun u s1 ⟨v, H1, I1, r, d, kvs, ev, hd, q⟩ => by
    obtain ⟨od, I2⟩ := I1.lock hd (show Mut (some (HO.dK kvs)) from trivial)
    exact ⟨v, _, I2, r, q od⟩⟩
theorem FnOk.calm {P : Program} {w : World} {K : PySem.W.Frag} {mg : Str → Option Value} {base : Heap} {k : Nat} {f : Addr} {fd : FuncData} {ps : List Str} {sp : Sp} (F : FnOk P w K mg base (L2.CX P w) k f fd ps sp) : FnOk P w K mg base CX0 k f fd ps (fun vs H Q _ => sp vs H Q fun _ _ _ => False) :=
  ⟨fun vs H Q E h => F.len vs H Q _ h, fun A outer s H args us vs Q E a b c d h => codeAny_mono (F.run A outer s H args us vs Q _ a b c d h) fun r s' z => by
    cases r with
    | error e =>
      obtain ⟨_, _, _, _, _, _, _, _, _, _, _, _, x⟩ := z
      exact x.elim
    | ok fl => cases fl <;> exact z⟩
theorem FnOk.lift {P : Program} {w : World} {K : PySem.W.Frag} {mg : Str → Option Value} {base : Heap} {k : Nat} {f : Addr} {fd : FuncData} {ps : List Str} {sp : Sp} (F : FnOk P w K mg base CX0 k f fd ps sp) : FnOk P w K mg base (L2.CX P w) k f fd ps sp :=
  ⟨F.len, fun A outer s H args us vs Q E a b c d h => codeAny_mono (F.run A outer s H args us vs Q E a b c d h) fun r s' z => by
    cases r with
    | error e => exact (show False from z).elim
    | ok fl => cases fl <;> exact z⟩
theorem FnOk.orX {P : Program} {w : World} {K : PySem.W.Frag} {mg : Str → Option Value} {base : Heap} {CX : CXT} {k : Nat} {f : Addr} {fd : FuncData} {ps : List Str} {sp1 sp2 sp : Sp} (F1 : FnOk P w K mg base CX k f fd ps sp1) (F2 : FnOk P w K mg base CX k f fd ps sp2)
    (h : ∀ vs H Q E, sp vs H Q E → sp1 vs H Q E ∨ sp2 vs H Q E) : FnOk P w K mg base CX k f fd ps sp :=
  ⟨fun vs H Q E z => (h vs H Q E z).elim (F1.len vs H Q E) (F2.len vs H Q E), fun A outer s H args us vs Q E a b c d z => (h vs H Q E z).elim (F1.run A outer s H args us vs Q E a b c d) (F2.run A outer s H args us vs Q E a b c d)⟩
/-- a book, or refused -/
def sp_made_bookU (K : PySem.W.Frag) (CB CS : Addr) : Sp := fun vs H Q E => sp_refused K CB CS vs H Q E ∨ sp_made_book K vs H Q E
theorem okU_made_book (T : Tx K mg) : FnOk P w K mg base (L2.CX P w) 5 T.made_book.f T.made_book.fd ["thing"] (sp_made_bookU K T.x_BadBook.C T.x_Stray.C) :=
  FnOk.orX (okX_made_book T) (FnOk.lift (ok_made_book T)) fun _ _ _ _ h => h
theorem sc_cut_ends : FnScope ["book", "bad", "ring", "found", "ends", "going", "row", "at", "message", "to"] ["book"] (defScope s_cut_ends) := ⟨rfl, rfl, rfl, by decide +kernel, rfl, by decide +kernel, by decide +kernel⟩
def sp_cut_ends (K : PySem.W.Frag) (CN CT : Addr) : Sp := fun vs H Q E => ∃ (v : V) (b : Book), vs = [v] ∧ BkV K H v b ∧ FormB b ∧ (∀ k r, ringForksM b = k :: r → OutsV H E CN (.int (k : Nat))) ∧ (ringForksM b = [] → manyC b → OutsV H E CT (.int 120)) ∧
  (ringForksM b = [] → ¬ manyC b → ∀ (t : Addr) (xs : List V) (H' : Hp), H' t = some (.lst xs) → Paired (PrV K H') xs (cutR b) → Ext [] H H' → Q (.ref t) H')
set_option maxHeartbeats 4000000 in
theorem okU_cut_ends (T : Tx K mg) : FnOk P w K mg base (L2.CX P w) 5 T.cut_ends.f T.cut_ends.fd ["book"] (sp_cut_ends K T.x_NoNumber.C T.x_TooMany.C) := by
  refine T.cut_ends.F.okX sc_cut_ends (fun vs H Q E h => ?_) (fun cdv A outer s H vs Q E hr h => ?_)
  · obtain ⟨v, b, rfl, _⟩ := h; rfl
  · obtain ⟨v, b, rfl, hb, fb, q1, q2, q⟩ := h
    obtain ⟨a, ls, rfl, ha, hls⟩ := id hb
    refine ⟨_, (pss_cons (ps_set (i := 1) sc_cut_ends.nd rfl (.inl rfl) (pe_call (ok_forks_on_rings T) (hr.mono (by decide)) (by rfl) T.forks_on_rings.g T.forks_on_rings.F.kp T.forks_on_rings.b .nil pass0 (pa_cons (pv 0) pa_nil)))
      (pss_cons (ps_if (pt_truth (pv 1) (by intro _; rfl))
        (pss_one (ps_raise rfl (takes_of rfl rfl rfl rfl) (pmk_X T.x_NoNumber T.init.ti (ok_init T) (hr.mono (by decide)) T.init.b (by rfl) (pe_ix ix_tup (pv 1) pe_int (fun _ _ => rfl)))))
        pss_nil)
      (pss_cons (ps_set (i := 2) sc_cut_ends.nd rfl (.inr rfl) (pe_call (ok_ring_states T) (hr.mono (by decide)) (by rfl) T.ring_states.g T.ring_states.F.kp T.ring_states.b .nil pass0 (pa_cons (pv 0) pa_nil)))
      (pss_cons (ps_set (i := 3) sc_cut_ends.nd rfl (.inl rfl) (pe_lst pa_nil))
      (pss_cons (ps_set (i := 4) sc_cut_ends.nd rfl (.inl rfl) (pe_lst (pa_cons (pe_tup (pa_cons (pe_tup pa_nil) (pa_cons pe_int pa_nil))) pa_nil)))
      (pss_cons (ps_while (passes_of rfl) (pt_truth (pv 4) (by intro _; rfl))
        (pss_cons (ps_set (i := 3) sc_cut_ends.nd rfl (.inl rfl) (pe_op op_cat (pv 3) (pv 4)))
        (pss_cons (ps_if (pt_cmpR op_gt (pe_callB call_len_seq (by rfl) T.n_len PySem.boot_len (pa_cons (pv 3) pa_nil)) (pe_glob (v := .int 120) (by rfl) T.c_MOST_CUT_ROWS.choose_spec ⟨_, rfl⟩) (nomark _))
          (pss_one (ps_raise rfl (takes_of rfl rfl rfl rfl) (pmk_X T.x_TooMany T.init.ti (ok_init T) (hr.mono (by decide)) T.init.b (by rfl) (pe_glob (v := .int 120) (by rfl) T.c_MOST_CUT_ROWS.choose_spec ⟨_, rfl⟩))))
          pss_nil)
        (PSs.nox (pss_cons (ps_setLc (i := 5) (own := [("row", 6), ("at", 7)]) rfl sc_cut_ends.nd rfl rfl (sw_true rfl rfl rfl (by decide +kernel)) (pi_list (pv 4)) (blkOk_by (own := [("row", 6), ("at", 7)]) (N := ["book", "bad", "ring", "found", "ends", "going", "row", "at", "message", "to"]) (sc := defScope s_cut_ends) (by decide +kernel)) (fun _ _ _ _ _ => (pg_tupK (n := 2) K rfl (pgs_cons (pg_name (i := 6) sc_cut_ends.nd rfl (.inl rfl)) (pgs_cons (pg_name (i := 7) sc_cut_ends.nd rfl (.inl rfl)) pgs_nil)))) (fun _ _ _ _ _ => pts_one (pt_mid (pt_cmpR (op_notIn_seqK K) (pv 7) (pv 2) (by rfl)))) (fun _ _ _ _ _ => (pe_tup (pa_cons (pv 6) (pa_cons (pv 7) pa_nil)))))
        (pss_one (ps_setLc2 (i := 4) (own := [("row", 6), ("at", 7), ("message", 8), ("to", 9)]) (vs1 := [8, 9]) rfl sc_cut_ends.nd rfl rfl (sw_true rfl rfl rfl (by decide +kernel)) (pi_list (pv 5)) (blkOk_by (own := [("row", 6), ("at", 7), ("message", 8), ("to", 9)]) (N := ["book", "bad", "ring", "found", "ends", "going", "row", "at", "message", "to"]) (sc := defScope s_cut_ends) (by decide +kernel)) (by decide) (fun _ _ _ _ _ => (pg_tupK (n := 2) K rfl (pgs_cons (pg_name (i := 6) sc_cut_ends.nd rfl (.inl rfl)) (pgs_cons (pg_name (i := 7) sc_cut_ends.nd rfl (.inl rfl)) pgs_nil)))) (fun _ _ _ _ _ => pts_nil) (fun _ _ _ _ _ => (pi_tupK K (pe_ix (ix_tupK K) (pv 0) (pv 7) (fun _ _ => rfl)))) (fun _ _ _ _ _ => (pg_tupK (n := 2) K rfl (pgs_cons (pg_name (i := 8) sc_cut_ends.nd rfl (.inl rfl)) (pgs_cons (pg_name (i := 9) sc_cut_ends.nd rfl (.inl rfl)) pgs_nil)))) (fun _ _ _ _ _ => pts_nil) (fun _ _ _ _ _ => (pe_tup (pa_cons (pe_mid (pe_op (op_catAK K) (pv 6) (pe_tup (pa_cons (pv 8) pa_nil)))) (pa_cons (pv 9) pa_nil)))))))))))
      (PSs.nox (pss_one (ps_ret (pv 3)))))))))), ?_⟩
    refine ⟨_, rfl, .ref a, b, rfl, hb, fb, fun t H1 ht e1 => ?_⟩
    refine ⟨_, rfl, _, .inr (.inl ⟨_, ht, rfl⟩), ?_⟩
    cases hrf : ringForksM b with
    | cons k r =>
      rw [hrf] at ht
      refine iteT ⟨_, rfl, t, _, _, _, rfl, rfl, ht, atI_nat (j := 0) rfl, fun dx nd => q1 k r hrf dx _ (e1.free nd) ⟨_, upd_same⟩ (e1.put2 nd)⟩
    | nil =>
      refine iteF ?_
      replace q2 := q2 hrf
      replace q := q hrf
      refine ⟨_, rfl, .ref a, b, rfl, hb.ext0 e1, fb, fun rg H2 hrg e2 => ?_⟩
      refine ⟨Nat.zero_le _, fun f0 hf0 => ⟨Nat.zero_le _, fun t1 ht1 => ⟨(by show 2 ≤ sizeLine; decide), fun t2 ht2 => ⟨(by show 1 ≤ sizeLine; decide), fun l0 hl0 => ?_⟩⟩⟩⟩
      have x1 : Ext [] H2 (upd H2 f0 (.lst [])) := .new hf0
      have x2 : Ext [] (upd H2 f0 (.lst [])) (upd (upd H2 f0 (.lst [])) t1 (.tup [])) := .new ht1
      have x3 : Ext [] (upd (upd H2 f0 (.lst [])) t1 (.tup [])) (upd (upd (upd H2 f0 (.lst [])) t1 (.tup [])) t2 (.tup [.ref t1, .int 0])) := .new ht2
      have x4 := Ext.new (L := []) (o := .lst [.ref t2]) hl0
      have hE : Paired (PrV K (upd (upd (upd (upd H2 f0 (.lst [])) t1 (.tup [])) t2 (.tup [.ref t1, .int 0])) l0 (.lst [.ref t2]))) [.ref t2] (cutL b 0) := .cons ⟨t2, .ref t1, rfl, x4.tup Lsts.nil (.of upd_same), t1, rfl, (x3.trans x4).tup Lsts.nil (.of upd_same)⟩ .nil
      have hf : upd (upd (upd (upd H2 f0 (.lst [])) t1 (.tup [])) t2 (.tup [.ref t1, .int 0])) l0 (.lst [.ref t2]) f0 = some (.lst []) := ((x2.trans x3).trans x4).at upd_same (by simp)
      have hl : upd (upd (upd (upd H2 f0 (.lst [])) t1 (.tup [])) t2 (.tup [.ref t1, .int 0])) l0 (.lst [.ref t2]) l0 = some (.lst [.ref t2]) := upd_same
      have x := ((x1.trans x2).trans x3).trans x4
      clear x1 x2 x3 x4 hf0 ht1 ht2 hl0
      show _
      generalize upd (upd (upd (upd H2 f0 (.lst [])) t1 (.tup [])) t2 (.tup [.ref t1, .int 0])) l0 (.lst [.ref t2]) = H3 at *
      have f2 := e1.trans e2
      refine ⟨fun m σ H' => ∃ (n : Nat) (fd en : Addr) (fx ex : List V) (y5 : Option V), m = 10 - n ∧ σ = [some (.ref a), some (.ref t), some (.ref rg), some (.ref fd), some (.ref en), y5, none, none, none, none] ∧ H' fd = some (.lst fx) ∧ Paired (PrV K H') fx (cutA b n) ∧ H' en = some (.lst ex) ∧ Paired (PrV K H') ex (cutL b n) ∧ (cutA b n).length ≤ 120 ∧ (cutL b n).length ≤ 600 ∧ Ext [] H2 H',
        ⟨10, 0, f0, l0, _, _, _, rfl, rfl, hf, .nil, hl, hE, (by show (0 : Nat) ≤ 120; decide), (by show (1 : Nat) ≤ 600; decide), x⟩, ?_⟩
      rintro m σ H' ⟨n, fd, en, fx, ex, y5, rfl, rfl, hfd, hF, hen, hE, l120, l600, e3⟩
      have fl := Paired.len hF
      have el := Paired.len hE
      refine ⟨_, rfl, _, .inl ⟨_, .of hen, rfl⟩, ?_⟩
      by_cases hex : cutL b n = []
      · have : ex = [] := by
          rw [hex] at el
          exact List.eq_nil_of_length_eq_zero el
        subst this
        refine iteF ⟨_, rfl, ?_⟩
        have hcr := cutR_stop fb hex
        rw [hcr] at hF l120
        exact q (fun z => by unfold manyC at z; omega) fd fx H' hfd hF (f2.trans e3)
      · have hne : ex ≠ [] := fun z => hex (by rw [z] at el; exact List.eq_nil_of_length_eq_zero el.symm)
        have : (!ex.isEmpty) = true := by cases ex with | nil => exact absurd rfl hne | cons _ _ => rfl
        rw [this]
        have hn9 : n ≤ 8 := by
          by_cases h : n ≤ 8
          · exact h
          · exact absurd (cut_nine fb (by omega)) hex
        refine iteT ⟨fun σ H'' => ∃ (fd en : Addr) (fx ex : List V) (y5 : Option V), σ = [some (.ref a), some (.ref t), some (.ref rg), some (.ref fd), some (.ref en), y5, none, none, none, none] ∧ H'' fd = some (.lst fx) ∧ Paired (PrV K H'') fx (cutA b (n + 1)) ∧ H'' en = some (.lst ex) ∧ Paired (PrV K H'') ex (cutL b (n + 1)) ∧ (cutA b (n + 1)).length ≤ 120 ∧ (cutL b (n + 1)).length ≤ 600 ∧ Ext [] H2 H'', fun σ' H'' h => ?_, ?_⟩
        · obtain ⟨fd, en, fx, ex, y5, h1, h2, h3, h4, h5, h6, h7, h8⟩ := h
          exact ⟨10 - (n + 1), by omega, n + 1, fd, en, fx, ex, y5, rfl, h1, h2, h3, h4, h5, h6, h7, h8⟩
        · refine ⟨_, rfl, _, rfl, fd, en, _, _, rfl, rfl, hfd, hen, by rw [fl, el]; exact Nat.le_of_lt (small1000 (by omega)), fun f2' hf2' => ?_⟩
          have z1 : Ext [] H' (upd H' f2' (.lst (fx ++ ex))) := .new hf2'
          have hf2 : upd H' f2' (.lst (fx ++ ex)) f2' = some (.lst (fx ++ ex)) := upd_same
          have hF2 : Paired (PrV K (upd H' f2' (.lst (fx ++ ex)))) (fx ++ ex) (cutA b (n + 1)) := Paired.app (Paired.imp hF fun _ _ z => z.ext0 z1) (Paired.imp hE fun _ _ z => z.ext0 z1)
          have hen2 := z1.at hen (by simp)
          have hE2 : Paired (PrV K (upd H' f2' (.lst (fx ++ ex)))) ex (cutL b n) := Paired.imp hE fun _ _ z => z.ext0 z1
          have e4 := e3.trans z1
          generalize upd H' f2' (.lst (fx ++ ex)) = H4 at *
          have fl2 := Paired.len hF2
          refine ⟨_, rfl, f2', _, rfl, .inl (.of hf2), _, _, rfl, rfl, _, rfl, ?_⟩
          by_cases hmany : 120 < (cutA b (n + 1)).length
          · rw [decide_eq_true (show ((fx ++ ex).length : Int) > 120 by omega)]
            have f4 := f2.trans e4
            exact iteT fun dx nd => q2 (cut_many fb hmany) dx _ (f4.free nd) ⟨_, upd_same⟩ (f4.put2 nd)
          · rw [decide_eq_false (show ¬ ((fx ++ ex).length : Int) > 120 by omega)]
            refine iteF ?_
            have l120' : (cutL b n).length ≤ 120 := by
              have h : (cutA b (n + 1)).length = (cutA b n).length + (cutL b n).length := List.length_append
              omega
            -- going
            refine ⟨_, rfl, en, rfl, ⟨_, .of hen2⟩, fun D hD => ?_⟩
            refine lc_list (K := K) (a := en) (xs := ex) (fun i H5 => ∃ gs : List V, H5 D = some (.lst gs) ∧ Paired (PrV K H5) gs (((cutL b n).take i).filter fun q => !ringB b q.2) ∧ Ext [] H4 H5) ⟨[], upd_same, by simp; exact .nil, .new hD⟩ (fun i H5 _ ⟨_, _, _, e⟩ => .of (e.at hen2 (by simp))) ?_ ?_
            · rintro i v H5 hv ⟨gs, hgs, hG, e5⟩
              obtain ⟨⟨r, h⟩, hq, tt, u, rfl, htt, hru⟩ := Paired.get' hE2 hv
              have hlt := cut_lt fb n _ (List.mem_of_getElem? hq)
              refine ⟨tt, _, rfl, e5.tup Lsts.nil htt, rfl, _, _, rfl, _, _, rfl, rfl, rfl, ?_⟩
              refine ⟨fun x H6 => x = (!ringB b h) ∧ H6 = H5, ⟨_, rfl, _, rfl, rg, _, rfl, .inl (.of ((e4.trans e5).at hrg (by simp))), rfl, flat_nV _, _, rfl, ?_, rfl⟩, ?_⟩
              · show (!inV (nV h) ((ringsM b).map nV)) = _
                rw [inV_nV, mem_rings hlt]
              · rintro x H6 ⟨rfl, rfl⟩
                refine ifB (fun hf => ?_) (fun hf => ?_)
                · refine ⟨_, rfl, _, rfl, (by show 2 ≤ sizeLine; decide), fun nt hnt => ?_⟩
                  have w1 : Ext [] H6 (upd H6 nt (.tup [u, .int h])) := .new hnt
                  have hgs2 := w1.at hgs (by simp)
                  refine ⟨gs, hgs2, ?_, gs ++ [.ref nt], upd_same, ?_, (e5.trans w1).put hD⟩
                  · rw [Paired.len hG]
                    refine small1000 (Nat.le_trans (List.length_filter_le _ _) ?_)
                    rw [List.length_take]
                    omega
                  · rw [filter_take _ hq, hf]
                    exact Paired.snoc (F := PrV K (upd (upd H6 nt (.tup [u, .int h])) D (.lst (gs ++ [.ref nt])))) (a := .ref nt) (b := (r, h)) (PrV.put ⟨nt, u, rfl, .of upd_same, hru.ext0 (e5.trans w1)⟩ hgs2) (Paired.imp hG fun _ _ z => (z.ext0 w1).put hgs2)
                · refine ⟨gs, hgs, ?_, e5⟩
                  rw [filter_take _ hq, hf]
                  simpa using hG
            · rintro H5 ⟨gs, hgs, hG, e5⟩
              rw [el, List.take_length] at hG
              -- ends
              have gl : gs.length ≤ 120 := by
                rw [Paired.len hG]
                exact Nat.le_trans (List.length_filter_le _ _) l120'
              refine ⟨_, rfl, D, rfl, ⟨_, .of hgs⟩, fun D2 hD2 => ?_⟩
              refine lc2_list (K := K) (a := D) (xs := gs) (fun j H6 => ∃ zs : List V, H6 D2 = some (.lst zs) ∧ zs.length ≤ 5 * j ∧ Paired (PrV K H6) zs (((((cutL b n).filter fun q => !ringB b q.2).take j).map fun q => (mvs b q.2).map fun p => (q.1 ++ [p.1], p.2)).flatten) ∧ Ext [] H5 H6) ⟨[], upd_same, Nat.zero_le _, by simp; exact .nil, .new hD2⟩ (fun j H6 _ ⟨_, _, _, _, e⟩ => .of (e.at hgs (by simp))) ?_ ?_
              · rintro j v H6 hv ⟨zs, hzs, zl, hZ, e6⟩
                obtain ⟨⟨r, h⟩, hq, tt, u, rfl, htt, ra, rfl, hra⟩ := Paired.get' hG hv
                have hqm := (List.mem_filter.mp (List.mem_of_getElem? hq)).1
                have hlt := cut_lt fb n _ hqm
                have hrl : r.length = n := (cut_row fb n _ hqm).2
                have hj : j < gs.length := (List.getElem?_eq_some_iff.mp hv).1
                obtain ⟨us, hu, c, ps, rfl, hc, hps⟩ := Paired.get hls (mvs_lt hlt)
                have plen := Paired.len hps
                have five := (fb.ok hlt).few
                refine ⟨tt, _, rfl, e6.tup Lsts.nil htt, rfl, _, _, rfl, _, _, rfl, rfl, rfl, yes ?_⟩
                have f6 := f2.trans (e4.trans (e5.trans e6))
                refine ⟨_, rfl, _, rfl, a, _, _, _, rfl, rfl, f6.tup Lsts.nil ha, atI_nat hu, c, rfl, ⟨_, (f6.tz Lsts.nil hc).sq⟩, ?_⟩
                refine lc2_tup (K := K) (c := c) (ys := ps.map V.ref) (fun k H7 => ∃ ws : List V, H7 D2 = some (.lst ws) ∧ ws.length ≤ 5 * j + k ∧ Paired (PrV K H7) ws (((((cutL b n).filter fun q => !ringB b q.2).take j).map fun q => (mvs b q.2).map fun p => (q.1 ++ [p.1], p.2)).flatten ++ (((mvs b h).take k).map fun p => (r ++ [p.1], p.2))) ∧ Ext [] H5 H7) ⟨zs, hzs, zl, by simpa using hZ, e6⟩ (fun k H7 _ ⟨_, _, _, _, e⟩ => ((f2.trans (e4.trans (e5.trans e))).tz Lsts.nil hc).sq) ?_ ?_
                · rintro k v H7 hv2 ⟨ws, hws, wl, hW, e7⟩
                  obtain ⟨g, hg, rfl⟩ := map_at hv2
                  obtain ⟨p, hp, hcp⟩ := Paired.get' hps hg
                  have hk5 : k < 5 := by
                    have := (List.getElem?_eq_some_iff.mp hp).1
                    omega
                  refine ⟨g, _, rfl, hcp.ext0 (f2.trans (e4.trans (e5.trans e7))), rfl, _, _, rfl, _, _, rfl, rfl, rfl, yes ?_⟩
                  refine ⟨fun u H8 => Ext [] H7 H8 ∧ RwV K H8 u (r ++ [p.1]), ?_, ?_⟩
                  · refine ⟨_, rfl, _, rfl, (by show 1 ≤ sizeLine; decide), fun s1 hs1 => ?_⟩
                    have w1 : Ext [] H7 (upd H7 s1 (.tup [.int p.1])) := .new hs1
                    refine ⟨ra, s1, _, _, rfl, rfl, (e7.trans w1).tup Lsts.nil hra, .of upd_same, ?_, fun h0 => ⟨w1, s1, rfl, ?_⟩, fun _ h0 => absurd h0 (by simp), fun _ _ s2 hs2 => ⟨w1.put2 hs2, s2, rfl, ?_⟩⟩
                    · rw [List.length_map, hrl]
                      exact Nat.le_of_lt (small1000 (by show n + 1 ≤ 1000; omega))
                    · have : r = [] := List.map_eq_nil_iff.mp h0
                      subst this
                      exact .of upd_same
                    · rw [List.map_append]
                      exact .of upd_same
                  · rintro u H8 ⟨e8, hu8⟩
                    refine ⟨_, rfl, (by show 2 ≤ sizeLine; decide), fun s3 hs3 => ?_⟩
                    have w5 : Ext [] H8 (upd H8 s3 (.tup [u, .int p.2])) := .new hs3
                    have hws5 := (e8.trans w5).at hws (by simp)
                    refine ⟨ws, hws5, small1000 (by omega), ws ++ [.ref s3], upd_same, by rw [List.length_append]; show ws.length + 1 ≤ _; omega, ?_, ((e7.trans e8).trans w5).put hD2⟩
                    rw [List.take_add_one, hp, List.map_append, ← List.append_assoc]
                    exact Paired.snoc (F := PrV K (upd (upd H8 s3 (.tup [u, .int p.2])) D2 (.lst (ws ++ [.ref s3])))) (a := .ref s3) (b := (r ++ [p.1], p.2)) (PrV.put ⟨s3, u, rfl, .of upd_same, hu8.ext0 w5⟩ hws5) (Paired.imp hW fun _ _ z => (z.ext0 (e8.trans w5)).put hws5)
                · rintro H7 ⟨ws, hws, wl, hW, e7⟩
                  rw [List.length_map, plen, List.take_length] at hW
                  refine ⟨ws, hws, ?_, ?_, e7⟩
                  · rw [List.length_map, plen] at wl
                    omega
                  · rw [List.take_add_one, hq, List.map_append, List.flatten_append]
                    simpa using hW
              · rintro H6 ⟨zs, hzs, zl, hZ, e6⟩
                rw [Paired.len hG, List.take_length] at hZ
                have hZ : Paired (PrV K H6) zs (cutL b (n + 1)) := hZ
                have f6 := e5.trans e6
                refine ⟨f2', D2, fx ++ ex, zs, _, rfl, f6.at hf2 (by simp), Paired.imp hF2 fun _ _ z => z.ext0 f6, hzs, hZ, by omega, ?_, e4.trans f6⟩
                rw [← Paired.len hZ]
                omega
end
end Nv
set_option Elab.async false
set_option linter.all false
set_option maxRecDepth 100000
namespace Nv
open PySem PySem.Spec PyProof.Rows L2
section
variable {P : Program} {w : World} {K : PySem.W.Frag} {mg : Str → Option Value} {base : Heap}
/-! ### cut rows, rays, the first fork -/
def RefC (K : PySem.W.Frag) (CB CS CN CT : Addr) (H : Hp) (E : XK) (v : V) : Prop :=
  (∃ (d : PyData) (C : Addr) (e : Int), Dp K H v d ∧ Ref CB CS d C e ∧ Outs H E C e) ∨
  (∃ (b : Book) (k : Nat) (r : List Nat), BkV K H v b ∧ OkB b ∧ ringForksM b = k :: r ∧ OutsV H E CN (.int (k : Nat))) ∨
  (∃ (b : Book), BkV K H v b ∧ OkB b ∧ ringForksM b = [] ∧ manyC b ∧ OutsV H E CT (.int 120))
def sp_cutU (K : PySem.W.Frag) (CB CS CN CT : Addr) (G : Hp → Book → V → Prop) : Sp := fun vs H Q E => ∃ v : V, vs = [v] ∧ (RefC K CB CS CN CT H E v ∨ ∃ b : Book, BkV K H v b ∧ OkB b ∧ ringForksM b = [] ∧ ¬ manyC b ∧ ∀ (x : V) (H' : Hp), G H' b x → Ext [] H H' → Q x H')
def Gcut (K : PySem.W.Frag) (H : Hp) (b : Book) (x : V) : Prop := ∃ (t : Addr) (xs : List V), x = .ref t ∧ SqT K H t xs ∧ Paired (RwV K H) xs ((cutR b).map (·.1))
def Gray (K : PySem.W.Frag) (H : Hp) (b : Book) (x : V) : Prop := ∃ (t : Addr) (xs : List V), x = .ref t ∧ SqT K H t xs ∧ Paired (RwV K H) xs (((cutR b).filter fun q => ringB b q.2).map (·.1))
def Gfirst (K : PySem.W.Frag) (H : Hp) (b : Book) (x : V) : Prop := match (cutR b).find? (fun q => decide (1 < (mvs b q.2).length)) with
  | some q => RwV K H x q.1
  | none => x = .non
theorem cutR_small {b : Book} (h : ¬ manyC b) : (cutR b).length ≤ 120 := by unfold manyC at h; omega
theorem sc_cut_rows : FnScope ["book", "row", "state"] ["book"] (defScope s_cut_rows) := ⟨rfl, rfl, rfl, by decide +kernel, rfl, by decide +kernel, by decide +kernel⟩
set_option maxHeartbeats 4000000 in
theorem okU_cut_rows (T : Tx K mg) : FnOk P w K mg base (L2.CX P w) 6 T.cut_rows.f T.cut_rows.fd ["book"] (sp_cutU K T.x_BadBook.C T.x_Stray.C T.x_NoNumber.C T.x_TooMany.C (Gcut K)) := by
  refine T.cut_rows.F.okX sc_cut_rows (fun vs H Q E h => ?_) (fun cdv A outer s H vs Q E hr h => ?_)
  · obtain ⟨v, rfl, _⟩ := h; rfl
  · obtain ⟨v, rfl, h⟩ := h
    refine ⟨_, (pss_cons (ps_expr (pe_call (okU_made_book T) (hr.mono (by decide)) (by rfl) T.made_book.g T.made_book.F.kp T.made_book.b .nil (passes_call (takes_of rfl rfl rfl rfl) (fun _ _ _ _ h => h)) (pa_cons (pv 0) pa_nil)))
      (pss_one (ps_ret (pe_callTy call_tupZ (by rfl) T.n_tuple (by decide +kernel) (pa_cons (pe_lc (own := [("row", 1), ("state", 2)]) rfl sc_cut_rows.nd (pi_list (pe_call (okU_cut_ends T) (hr.mono (by decide)) (by rfl) T.cut_ends.g T.cut_ends.F.kp T.cut_ends.b .nil (passes_call (takes_of rfl rfl rfl rfl) (fun _ _ _ _ h => h)) (pa_cons (pv 0) pa_nil))) (blkOk_by (own := [("row", 1), ("state", 2)]) (N := ["book", "row", "state"]) (sc := defScope s_cut_rows) (by decide +kernel)) (fun _ _ _ _ _ => (pg_tupK (n := 2) K rfl (pgs_cons (pg_name (i := 1) sc_cut_rows.nd rfl (.inl rfl)) (pgs_cons (pg_name (i := 2) sc_cut_rows.nd rfl (.inl rfl)) pgs_nil)))) (fun _ _ _ _ _ => pts_nil) (fun _ _ _ _ _ => (pv 1))) pa_nil))))), ?_⟩
    refine ⟨_, rfl, ?_⟩
    rcases h with (⟨d, C, e, hd, href, q⟩ | ⟨b, k, r, hb, ok, hrf, q⟩ | ⟨b, hb, ok, hrf, hm, q⟩) | ⟨b, hb, ok, hrf, hm, q⟩
    · exact .inl ⟨v, d, C, e, rfl, hd, href, q⟩
    · refine .inr ⟨v, b, rfl, hb, ok, fun H1 e1 => ⟨_, rfl, v, b, rfl, hb.ext0 e1, ok.toFormB, fun k' r' h => ?_, fun h => ?_, fun h => ?_⟩⟩
      · rw [hrf] at h; cases h; exact q.ext e1
      · rw [hrf] at h; cases h
      · rw [hrf] at h; cases h
    · refine .inr ⟨v, b, rfl, hb, ok, fun H1 e1 => ⟨_, rfl, v, b, rfl, hb.ext0 e1, ok.toFormB, fun k' r' h => ?_, fun _ _ => q.ext e1, fun _ h => absurd hm h⟩⟩
      rw [hrf] at h; cases h
    · refine .inr ⟨v, b, rfl, hb, ok, fun H1 e1 => ⟨_, rfl, v, b, rfl, hb.ext0 e1, ok.toFormB, fun k' r' h => ?_, fun _ h => absurd h hm, fun _ _ t xs H2 ht hxs e2 => ⟨t, rfl, ⟨_, .of ht⟩, fun D hD => ?_⟩⟩⟩
      · rw [hrf] at h; cases h
      · have l120 := cutR_small hm
        refine lc_list (K := K) (a := t) (xs := xs) (fun i H3 => ∃ ys : List V, H3 D = some (.lst ys) ∧ Paired (RwV K H3) ys (((cutR b).take i).map (·.1)) ∧ Ext [] H2 H3) ⟨[], upd_same, by simp; exact .nil, .new hD⟩ (fun i H3 _ ⟨_, _, _, e⟩ => .of (e.at ht (by simp))) ?_ ?_
        · rintro i x H3 hv ⟨ys, hys, hY, e3⟩
          obtain ⟨⟨r, h⟩, hq, tt, u, rfl, htt, hru⟩ := Paired.get' hxs hv
          refine ⟨tt, _, rfl, e3.tup Lsts.nil htt, rfl, _, _, rfl, _, _, rfl, rfl, rfl, yes ?_⟩
          refine ⟨_, rfl, ys, hys, ?_, ys ++ [u], upd_same, ?_, e3.put hD⟩
          · rw [Paired.len hY, List.length_map, List.length_take]
            exact small1000 (by omega)
          · rw [List.take_add_one, hq, List.map_append]
            exact Paired.snoc ((hru.ext0 e3).put hys) (Paired.imp hY fun _ _ z => z.put hys)
        · rintro H3 ⟨ys, hys, hY, e3⟩
          rw [Paired.len hxs, List.take_length] at hY
          refine ⟨D, _, rfl, .of hys, fun t2 H4 ht2 hH4 => ?_⟩
          obtain ⟨o, _, rfl⟩ := hH4
          have e4 : Ext [] H3 (upd H3 t2 (.frz o (.tup ys))) := .new ht2
          exact q _ _ ⟨t2, ys, rfl, .inl (.inr ⟨o, upd_same⟩), Paired.imp hY fun _ _ z => z.ext0 e4⟩ (((e1.trans e2).trans e3).trans e4)
theorem sc_rays : FnScope ["book", "ring", "row", "state"] ["book"] (defScope s_rays) := ⟨rfl, rfl, rfl, by decide +kernel, rfl, by decide +kernel, by decide +kernel⟩
set_option maxHeartbeats 4000000 in
theorem okU_rays (T : Tx K mg) : FnOk P w K mg base (L2.CX P w) 6 T.rays.f T.rays.fd ["book"] (sp_cutU K T.x_BadBook.C T.x_Stray.C T.x_NoNumber.C T.x_TooMany.C (Gray K)) := by
  refine T.rays.F.okX sc_rays (fun vs H Q E h => ?_) (fun cdv A outer s H vs Q E hr h => ?_)
  · obtain ⟨v, rfl, _⟩ := h; rfl
  · obtain ⟨v, rfl, h⟩ := h
    refine ⟨_, (pss_cons (ps_expr (pe_call (okU_made_book T) (hr.mono (by decide)) (by rfl) T.made_book.g T.made_book.F.kp T.made_book.b .nil (passes_call (takes_of rfl rfl rfl rfl) (fun _ _ _ _ h => h)) (pa_cons (pv 0) pa_nil)))
      (pss_cons (ps_set (i := 1) sc_rays.nd rfl (.inr rfl) (pe_call (ok_ring_states T) (hr.mono (by decide)) (by rfl) T.ring_states.g T.ring_states.F.kp T.ring_states.b .nil pass0 (pa_cons (pv 0) pa_nil)))
      (pss_one (ps_ret (pe_callTy call_tupZ (by rfl) T.n_tuple (by decide +kernel) (pa_cons (pe_lc (own := [("row", 2), ("state", 3)]) rfl sc_rays.nd (pi_list (pe_call (okU_cut_ends T) (hr.mono (by decide)) (by rfl) T.cut_ends.g T.cut_ends.F.kp T.cut_ends.b .nil (passes_call (takes_of rfl rfl rfl rfl) (fun _ _ _ _ h => h)) (pa_cons (pv 0) pa_nil))) (blkOk_by (own := [("row", 2), ("state", 3)]) (N := ["book", "ring", "row", "state"]) (sc := defScope s_rays) (by decide +kernel)) (fun _ _ _ _ _ => (pg_tupK (n := 2) K rfl (pgs_cons (pg_name (i := 2) sc_rays.nd rfl (.inl rfl)) (pgs_cons (pg_name (i := 3) sc_rays.nd rfl (.inl rfl)) pgs_nil)))) (fun _ _ _ _ _ => pts_one (pt_mid (pt_cmpR (op_in_seqK K) (pv 3) (pv 1) (by rfl)))) (fun _ _ _ _ _ => (pv 2))) pa_nil)))))), ?_⟩
    refine ⟨_, rfl, ?_⟩
    rcases h with (⟨d, C, e, hd, href, q⟩ | ⟨b, k, r, hb, ok, hrf, q⟩ | ⟨b, hb, ok, hrf, hm, q⟩) | ⟨b, hb, ok, hrf, hm, q⟩
    · exact .inl ⟨v, d, C, e, rfl, hd, href, q⟩
    · refine .inr ⟨v, b, rfl, hb, ok, fun H0 e0 => ⟨_, rfl, v, b, rfl, hb.ext0 e0, ok.toFormB, fun rg H1 hrg e1' => ?_⟩⟩
      have e1 := e0.trans e1'
      refine ⟨_, rfl, v, b, rfl, hb.ext0 e1, ok.toFormB, fun k' r' h => ?_, fun h => ?_, fun h => ?_⟩
      · rw [hrf] at h; cases h; exact q.ext e1
      · rw [hrf] at h; cases h
      · rw [hrf] at h; cases h
    · refine .inr ⟨v, b, rfl, hb, ok, fun H0 e0 => ⟨_, rfl, v, b, rfl, hb.ext0 e0, ok.toFormB, fun rg H1 hrg e1' => ?_⟩⟩
      have e1 := e0.trans e1'
      refine ⟨_, rfl, v, b, rfl, hb.ext0 e1, ok.toFormB, fun k' r' h => ?_, fun _ _ => q.ext e1, fun _ h => absurd hm h⟩
      rw [hrf] at h; cases h
    · refine .inr ⟨v, b, rfl, hb, ok, fun H0 e0 => ⟨_, rfl, v, b, rfl, hb.ext0 e0, ok.toFormB, fun rg H1 hrg e1' => ?_⟩⟩
      have e1 := e0.trans e1'
      refine ⟨_, rfl, v, b, rfl, hb.ext0 e1, ok.toFormB, fun k' r' h => ?_, fun _ h => absurd h hm, fun _ _ t xs H2 ht hxs e2 => ⟨t, rfl, ⟨_, .of ht⟩, fun D hD => ?_⟩⟩
      · rw [hrf] at h; cases h
      · have l120 := cutR_small hm
        refine lc_list (K := K) (a := t) (xs := xs) (fun i H3 => ∃ ys : List V, H3 D = some (.lst ys) ∧ Paired (RwV K H3) ys ((((cutR b).take i).filter fun q => ringB b q.2).map (·.1)) ∧ Ext [] H2 H3) ⟨[], upd_same, by simp; exact .nil, .new hD⟩ (fun i H3 _ ⟨_, _, _, e⟩ => .of (e.at ht (by simp))) ?_ ?_
        · rintro i x H3 hv ⟨ys, hys, hY, e3⟩
          obtain ⟨⟨r, h⟩, hq, tt, u, rfl, htt, hru⟩ := Paired.get' hxs hv
          obtain ⟨kk, _, hkk⟩ := cutA_mem (List.mem_of_getElem? hq)
          have hlt := cut_lt ok.toFormB kk _ hkk
          refine ⟨tt, _, rfl, e3.tup Lsts.nil htt, rfl, _, _, rfl, _, _, rfl, rfl, rfl, ?_⟩
          refine ⟨fun x H6 => x = ringB b h ∧ H6 = H3, ⟨_, rfl, _, rfl, rg, _, rfl, .inl (.of ((e2.trans e3).at hrg (by simp))), rfl, flat_nV _, _, rfl, ?_, rfl⟩, ?_⟩
          · show inV (nV h) ((ringsM b).map nV) = _
            rw [inV_nV, mem_rings hlt]
          · rintro x H6 ⟨rfl, rfl⟩
            refine ifB (fun hf => ?_) (fun hf => ?_)
            · refine ⟨_, rfl, ys, hys, ?_, ys ++ [u], upd_same, ?_, e3.put hD⟩
              · rw [Paired.len hY, List.length_map]
                refine small1000 (Nat.le_trans (List.length_filter_le _ _) ?_)
                rw [List.length_take]
                omega
              · rw [filter_take _ hq, hf, List.map_append]
                exact Paired.snoc ((hru.ext0 e3).put hys) (Paired.imp hY fun _ _ z => z.put hys)
            · refine ⟨ys, hys, ?_, e3⟩
              rw [filter_take _ hq, hf]
              simpa using hY
        · rintro H3 ⟨ys, hys, hY, e3⟩
          rw [Paired.len hxs, List.take_length] at hY
          refine ⟨D, _, rfl, .of hys, fun t2 H4 ht2 hH4 => ?_⟩
          obtain ⟨o, _, rfl⟩ := hH4
          have e4 : Ext [] H3 (upd H3 t2 (.frz o (.tup ys))) := .new ht2
          exact q _ _ ⟨t2, ys, rfl, .inl (.inr ⟨o, upd_same⟩), Paired.imp hY fun _ _ z => z.ext0 e4⟩ (((e1.trans e2).trans e3).trans e4)
theorem sc_first_fork : FnScope ["book", "state", "row"] ["book"] (defScope s_first_fork) := ⟨rfl, rfl, rfl, by decide +kernel, rfl, by decide +kernel, by decide +kernel⟩
set_option maxHeartbeats 4000000 in
theorem okU_first_fork (T : Tx K mg) : FnOk P w K mg base (L2.CX P w) 6 T.first_fork.f T.first_fork.fd ["book"] (sp_cutU K T.x_BadBook.C T.x_Stray.C T.x_NoNumber.C T.x_TooMany.C (Gfirst K)) := by
  refine T.first_fork.F.okX sc_first_fork (fun vs H Q E h => ?_) (fun cdv A outer s H vs Q E hr h => ?_)
  · obtain ⟨v, rfl, _⟩ := h; rfl
  · obtain ⟨v, rfl, h⟩ := h
    refine ⟨_, (pss_cons (ps_expr (pe_call (okU_made_book T) (hr.mono (by decide)) (by rfl) T.made_book.g T.made_book.F.kp T.made_book.b .nil (passes_call (takes_of rfl rfl rfl rfl) (fun _ _ _ _ h => h)) (pa_cons (pv 0) pa_nil)))
      (pss_cons (ps_expr (pe_call (okU_cut_ends T) (hr.mono (by decide)) (by rfl) T.cut_ends.g T.cut_ends.F.kp T.cut_ends.b .nil (passes_call (takes_of rfl rfl rfl rfl) (fun _ _ _ _ h => h)) (pa_cons (pv 0) pa_nil)))
      (PSs.nox (pss_cons (ps_for PassesOwn.never rfl (pi_items (pe_frz (pe_call (okS_first_rows T) (hr.mono (by decide)) (by rfl) T.first_rows.g T.first_rows.F.kp T.first_rows.bD.choose_spec.2 T.first_rows.bD.choose_spec.1 pass0 (pa_cons (pv 0) pa_nil)))) (pg_tup rfl (pgs_cons (pg_name (i := 1) sc_first_fork.nd rfl (.inl rfl)) (pgs_cons (pg_name (i := 2) sc_first_fork.nd rfl (.inl rfl)) pgs_nil)))
        (pss_one (ps_if (pt_cmpR op_gt (pe_callB call_len_seq (by rfl) T.n_len PySem.boot_len (pa_cons (pe_ix ix_tup (pv 0) (pv 1) (fun _ _ => rfl)) pa_nil)) pe_int (nomark _))
          (pss_one (ps_ret (pv 2)))
          pss_nil)))
      (pss_one (ps_ret pe_non)))))), ?_⟩
    refine ⟨_, rfl, ?_⟩
    rcases h with (⟨d, C, e, hd, href, q⟩ | ⟨b, k, r, hb, ok, hrf, q⟩ | ⟨b, hb, ok, hrf, hm, q⟩) | ⟨b, hb, ok, hrf, hm, q⟩
    · exact .inl ⟨v, d, C, e, rfl, hd, href, q⟩
    · refine .inr ⟨v, b, rfl, hb, ok, fun H1 e1 => ⟨_, rfl, v, b, rfl, hb.ext0 e1, ok.toFormB, fun k' r' h => ?_, fun h => ?_, fun h => ?_⟩⟩
      · rw [hrf] at h; cases h; exact q.ext e1
      · rw [hrf] at h; cases h
      · rw [hrf] at h; cases h
    · refine .inr ⟨v, b, rfl, hb, ok, fun H1 e1 => ⟨_, rfl, v, b, rfl, hb.ext0 e1, ok.toFormB, fun k' r' h => ?_, fun _ _ => q.ext e1, fun _ h => absurd hm h⟩⟩
      rw [hrf] at h; cases h
    · refine .inr ⟨v, b, rfl, hb, ok, fun H1 e1 => ⟨_, rfl, v, b, rfl, hb.ext0 e1, ok.toFormB, fun k' r' h => ?_, fun _ h => absurd h hm, fun _ _ t xs H2 ht hxs e2 => ?_⟩⟩
      · rw [hrf] at h; cases h
      · have fb := ok.toFormB
        have f2 := e1.trans e2
        refine ⟨_, rfl, v, b, rfl, (hb.ext0 f2).wk, fb, fun F kvs d H3 mt hk hd hrows e3 fd => ⟨d, kvs, rfl, hd, fun od => ?_⟩⟩
        have e4 : Ext [] H2 (upd H3 d (.frz od (.dK kvs))) := e3.put fd
        have l3 : Lsts [d] H3 := one_dk hd
        have w4 : Ext [d] H3 (upd H3 d (.frz od (.dK kvs))) := .wr (by simp)
        have hrows4 : ∀ e ∈ kvs, RowS K b (upd H3 d (.frz od (.dK kvs))) 8 e := fun e he => by
          obtain ⟨x, r, k, h1, h2, h3, h4⟩ := hrows e he
          exact ⟨x, r, k, h1, w4.tup l3 h2, h3, h4⟩
        have hd4 : upd H3 d (.frz od (.dK kvs)) d = some (.frz od (.dK kvs)) := upd_same
        clear hrows l3 w4
        generalize upd H3 d (.frz od (.dK kvs)) = H4 at *
        have f4 := f2.trans e4
        obtain ⟨a, ls, rfl, ha, hls⟩ := hb.ext0 f4
        have klen : kvs.length = F.length := by have := congrArg List.length hk; simpa using this
        have key : ∀ {i : Nat} {e : Key × V}, kvs[i]? = some e → ∃ s, F[i]? = some s ∧ e.1 = kN s := fun {i e} h => by
          have h1 : (kvs.map (·.1))[i]? = some e.1 := by rw [List.getElem?_map, h]; rfl
          rw [hk, List.getElem?_map] at h1
          cases hs : F[i]? with
          | none => rw [hs] at h1; cases h1
          | some s => rw [hs] at h1; exact ⟨s, rfl, (Option.some.inj h1).symm⟩
        refine ⟨d, od, kvs, rfl, hd4, ?_⟩
        refine for_it (walk_items (d := d) (o := od) (kvs := kvs)) (fun i σ H' => ∃ y1 y2 : Option V, σ = [some (.ref a), y1, y2] ∧ Ext [] H4 H' ∧ ∀ j s, j < i → F[j]? = some s → s ∉ forksM b) ⟨_, _, rfl, .refl, fun j s h => absurd h (by omega)⟩ (fun i σ H' _ ⟨_, _, _, e, _⟩ => e.at hd4 (by simp)) ?_ ?_
        · rintro i x0 σ H5 H' hi ⟨y1, y2, rfl, e5, hno⟩ ⟨T', x, y, rfl, hT, rfl, hx, hy⟩
          obtain ⟨e, he⟩ : ∃ e, kvs[i]? = some e := ⟨_, List.getElem?_eq_getElem hi⟩
          have hx : kvs[i]?.map (fun kv => kV kv.1) = some x := hx
          have hy : kvs[i]?.map Prod.snd = some y := hy
          rw [he] at hx hy
          obtain ⟨s, hs, hes⟩ := key he
          obtain ⟨xa, r, k, hek, hxa, hr8, hat⟩ := hrows4 e (List.mem_of_getElem? he)
          subst hek
          have hks : k = s := kN_inj.mp hes
          subst hks
          cases hx
          cases hy
          have hkb : k < b.length := mt.lt k (List.mem_of_getElem? hs)
          obtain ⟨u, hu, c, ps, rfl, hc, hps⟩ := Paired.get hls (mvs_lt hkb)
          have plen := Paired.len hps
          have e6 := e5.put2 (o := .tup [kV (kN k), .ref xa]) hT
          refine ⟨T', _, rfl, .of upd_same, rfl, _, _, rfl, _, _, rfl, rfl, ?_⟩
          refine ⟨_, rfl, _, rfl, a, _, _, _, rfl, rfl, e6.tup Lsts.nil ha, atI_nat hu, c, _, rfl, .inr (e6.tz Lsts.nil hc).sq, _, _, rfl, rfl, _, rfl, ?_⟩
          have ed : decide (((ps.map V.ref).length : Int) > 1) = decide (1 < (mvs b k).length) := by
            rw [List.length_map, plen]
            exact decide_eq_decide.mpr (by omega)
          rw [ed]
          refine ifB (fun h2 => ?_) (fun h2 => ?_)
          · have hkf : k ∈ forksM b := fork_iff.mpr ⟨hkb, of_decide_eq_true h2⟩
            have hne : forksM b ≠ [] := fun z => by rw [z] at hkf; cases hkf
            have hkF := first_met ok hne mt hs hkf hno
            obtain ⟨r0, hc0, hfind⟩ := first_cut ok hne hrf
            subst hkF
            have hrr := row_one fb hc0 hkf (nofork_ring fb hrf hkf) hat
            subst hrr
            refine ⟨_, rfl, q _ _ ?_ (f4.trans e6)⟩
            unfold Gfirst
            rw [hfind]
            exact ⟨xa, rfl, e6.tup Lsts.nil hxa⟩
          · refine ⟨_, _, rfl, e6, fun j t hj ht => ?_⟩
            by_cases hji : j = i
            · subst hji
              rw [hs] at ht
              cases ht
              exact fun z => of_decide_eq_false h2 (fork_iff.mp z).2
            · exact hno j t (by omega) ht
        · rintro σ H5 ⟨y1, y2, rfl, e5, hno⟩
          have hf0 : forksM b = [] := by
            cases hfk : forksM b with
            | nil => rfl
            | cons f rest =>
              have hf : f ∈ forksM b := by rw [hfk]; simp
              have hin := mt.all (ok.reach f (forks_lt hf))
              obtain ⟨j, hj, e⟩ := List.mem_iff_getElem.mp hin
              exact absurd hf (hno j f (by omega) (by rw [List.getElem?_eq_getElem hj, e]))
          refine q _ _ ?_ (f4.trans e5)
          unfold Gfirst
          rw [no_cut fb hf0]
end
end Nv
set_option Elab.async false
set_option linter.all false
set_option maxRecDepth 100000
namespace Nv
open PySem PySem.Spec PyProof.Rows L2
section
variable {P : Program} {w : World} {K : PySem.W.Frag} {mg : Str → Option Value} {base : Heap}
/-! ### functions of a book alone, refused -/

theorem sc_law_alone : FnScope ["way", "book"] ["way", "book"] (defScope s_law_alone) := ⟨rfl, rfl, rfl, by decide +kernel, rfl, by decide +kernel, by decide +kernel⟩
def sp_law_aloneX (K : PySem.W.Frag) (CB CS CN CT : Addr) : Sp := fun vs H _ E => ∃ (k : Nat) (v : V), vs = [.int k, v] ∧ ((∃ (d : PyData) (C : Addr) (e : Int), Dp K H v d ∧ Ref CB CS d C e ∧ Outs H E C e) ∨ (5 ≤ k ∧ RefC K CB CS CN CT H E v))
theorem okX_law_alone (T : Tx K mg) : FnOk P w K mg base (L2.CX P w) 8 T.law_alone.f T.law_alone.fd ["way", "book"] (sp_law_aloneX K T.x_BadBook.C T.x_Stray.C T.x_NoNumber.C T.x_TooMany.C) := by
  refine T.law_alone.F.okX sc_law_alone (fun vs H Q E h => ?_) (fun cdv A outer s H vs Q E hr h => ?_)
  · obtain ⟨k, v, rfl, _⟩ := h; rfl
  · obtain ⟨k, v, rfl, h⟩ := h
    refine ⟨_, (pss_cons (ps_if (pt_cmpR op_eq (pv 0) pe_int (nomark _))
        (pss_one (ps_ret (pe_call (okX_forks T) (hr.mono (by decide)) (by rfl) T.forks.g T.forks.F.kp T.forks.b .nil (passes_call (takes_of rfl rfl rfl rfl) (fun _ _ _ _ h => h)) (pa_cons (pv 1) pa_nil))))
        pss_nil)
      (pss_cons (ps_if (pt_cmpR op_eq (pv 0) pe_int (nomark _))
        (pss_one (ps_ret (pe_call (okX_knots T) (hr.mono (by decide)) (by rfl) T.knots.g T.knots.F.kp T.knots.b .nil (passes_call (takes_of rfl rfl rfl rfl) (fun _ _ _ _ h => h)) (pa_cons (pv 1) pa_nil))))
        pss_nil)
      (pss_cons (ps_if (pt_cmpR op_eq (pv 0) pe_int (nomark _))
        (pss_one (ps_ret (pe_call (okX_ring_forks T) (hr.mono (by decide)) (by rfl) T.ring_forks.g T.ring_forks.F.kp T.ring_forks.b .nil (passes_call (takes_of rfl rfl rfl rfl) (fun _ _ _ _ h => h)) (pa_cons (pv 1) pa_nil))))
        pss_nil)
      (pss_cons (ps_if (pt_cmpR op_eq (pv 0) pe_int (nomark _))
        (pss_one (ps_ret (pe_call (okX_from_window T) (hr.mono (by decide)) (by rfl) T.from_window.g T.from_window.F.kp T.from_window.b .nil (passes_call (takes_of rfl rfl rfl rfl) (fun _ _ _ _ h => h)) (pa_cons (pv 1) pa_nil))))
        pss_nil)
      (pss_cons (ps_if (pt_cmpR op_eq (pv 0) pe_int (nomark _))
        (pss_one (ps_ret (pe_call (okX_verdict T) (hr.mono (by decide)) (by rfl) T.verdict.g T.verdict.F.kp T.verdict.b .nil (passes_call (takes_of rfl rfl rfl rfl) (fun _ _ _ _ h => h)) (pa_cons (pv 1) pa_nil))))
        pss_nil)
      (pss_cons (ps_if (pt_cmpR op_eq (pv 0) pe_int (nomark _))
        (pss_one (ps_ret (pe_call (okU_cut_rows T) (hr.mono (by decide)) (by rfl) T.cut_rows.g T.cut_rows.F.kp T.cut_rows.b .nil (passes_call (takes_of rfl rfl rfl rfl) (fun _ _ _ _ h => h)) (pa_cons (pv 1) pa_nil))))
        pss_nil)
      (pss_one (ps_ret (pe_mid (pe_ifExp (pt_cmpR op_eq (pv 0) pe_int (nomark _)) (pe_call (okU_rays T) (hr.mono (by decide)) (by rfl) T.rays.g T.rays.F.kp T.rays.b .nil (passes_call (takes_of rfl rfl rfl rfl) (fun _ _ _ _ h => h)) (pa_cons (pv 1) pa_nil)) (pe_call (okU_first_fork T) (hr.mono (by decide)) (by rfl) T.first_fork.g T.first_fork.F.kp T.first_fork.b .nil (passes_call (takes_of rfl rfl rfl rfl) (fun _ _ _ _ h => h)) (pa_cons (pv 1) pa_nil)))))))))))), ?_⟩
    rcases h with ⟨d, C, e, hd, href, q⟩ | ⟨h5, h⟩
    · refine ⟨_, rfl, rfl, _, rfl, ite2 (fun _ => ⟨_, rfl, v, d, C, e, rfl, hd, href, q⟩) (fun _ => ?_)⟩
      refine ⟨_, rfl, rfl, _, rfl, ite2 (fun _ => ⟨_, rfl, v, d, C, e, rfl, hd, href, q⟩) (fun _ => ?_)⟩
      refine ⟨_, rfl, rfl, _, rfl, ite2 (fun _ => ⟨_, rfl, v, d, C, e, rfl, hd, href, q⟩) (fun _ => ?_)⟩
      refine ⟨_, rfl, rfl, _, rfl, ite2 (fun _ => ⟨_, rfl, v, d, C, e, rfl, hd, href, q⟩) (fun _ => ?_)⟩
      refine ⟨_, rfl, rfl, _, rfl, ite2 (fun _ => ⟨_, rfl, v, d, C, e, rfl, hd, href, q⟩) (fun _ => ?_)⟩
      have h : RefC K T.x_BadBook.C T.x_Stray.C T.x_NoNumber.C T.x_TooMany.C H E v := .inl ⟨d, C, e, hd, href, q⟩
      refine ⟨_, rfl, rfl, _, rfl, ite2 (fun _ => ⟨_, rfl, v, rfl, .inl h⟩) (fun _ => ?_)⟩
      exact ⟨fun _ _ => False, ⟨_, rfl, rfl, _, rfl, ite2 (fun _ => ⟨_, rfl, v, rfl, .inl h⟩) (fun _ => ⟨_, rfl, v, rfl, .inl h⟩)⟩, fun _ _ z => z.elim⟩
    · have no : ∀ j : Int, j < 5 → decide (V.int (k : Nat) = V.int j) = false := fun j hj => decide_eq_false fun z => by
        injection z with z
        omega
      refine ⟨_, rfl, rfl, _, rfl, ?_⟩
      rw [no 0 (by decide)]
      refine iteF ⟨_, rfl, rfl, _, rfl, ?_⟩
      rw [no 1 (by decide)]
      refine iteF ⟨_, rfl, rfl, _, rfl, ?_⟩
      rw [no 2 (by decide)]
      refine iteF ⟨_, rfl, rfl, _, rfl, ?_⟩
      rw [no 3 (by decide)]
      refine iteF ⟨_, rfl, rfl, _, rfl, ?_⟩
      rw [no 4 (by decide)]
      refine iteF ⟨_, rfl, rfl, _, rfl, ite2 (fun _ => ⟨_, rfl, v, rfl, .inl h⟩) (fun _ => ?_)⟩
      exact ⟨fun _ _ => False, ⟨_, rfl, rfl, _, rfl, ite2 (fun _ => ⟨_, rfl, v, rfl, .inl h⟩) (fun _ => ⟨_, rfl, v, rfl, .inl h⟩)⟩, fun _ _ z => z.elim⟩
/-! ### functions of a book and a window, refused -/

theorem sc_law_more : FnScope ["way", "book", "window"] ["way", "book", "window"] (defScope s_law_more) := ⟨rfl, rfl, rfl, by decide +kernel, rfl, by decide +kernel, by decide +kernel⟩
def sp_law_moreX (K : PySem.W.Frag) (CB CS CW : Addr) : Sp := fun vs H _ E => ∃ (k : Nat) (v u : V), vs = [.int k, v, u] ∧ ((∃ (d : PyData) (C : Addr) (e : Int), Dp K H v d ∧ Ref CB CS d C e ∧ Outs H E C e) ∨ ∃ (b : Book) (d : PyData), BkV K H v b ∧ OkB b ∧ Dp K H u d ∧ numD d = false ∧ (3 ≤ k → winD d = false) ∧ OutsV H E CW (.int 0))
theorem okX_law_more (T : Tx K mg) : FnOk P w K mg base (L2.CX P w) 8 T.law_more.f T.law_more.fd ["way", "book", "window"] (sp_law_moreX K T.x_BadBook.C T.x_Stray.C T.x_BadWindow.C) := by
  refine T.law_more.F.okX sc_law_more (fun vs H Q E h => ?_) (fun cdv A outer s H vs Q E hr h => ?_)
  · obtain ⟨k, v, u, rfl, _⟩ := h; rfl
  · obtain ⟨k, v, u, rfl, h⟩ := h
    refine ⟨_, (pss_cons (ps_if (pt_cmpR op_eq (pv 0) pe_int (nomark _))
        (pss_one (ps_ret (pe_call (okX_ranks T) (hr.mono (by decide)) (by rfl) T.ranks.g T.ranks.F.kp T.ranks.b .nil (passes_call (takes_of rfl rfl rfl rfl) (fun _ _ _ _ h => h)) (pa_cons (pv 1) (pa_cons (pv 2) pa_nil)))))
        pss_nil)
      (pss_cons (ps_if (pt_cmpR op_eq (pv 0) pe_int (nomark _))
        (pss_one (ps_ret (pe_call (okX_lasting T) (hr.mono (by decide)) (by rfl) T.lasting.g T.lasting.F.kp T.lasting.b .nil (passes_call (takes_of rfl rfl rfl rfl) (fun _ _ _ _ h => h)) (pa_cons (pv 1) (pa_cons (pv 2) pa_nil)))))
        pss_nil)
      (pss_one (ps_ret (pe_mid (pe_ifExp (pt_cmpR op_eq (pv 0) pe_int (nomark _)) (pe_call (okX_special T) (hr.mono (by decide)) (by rfl) T.special.g T.special.F.kp T.special.b .nil (passes_call (takes_of rfl rfl rfl rfl) (fun _ _ _ _ h => h)) (pa_cons (pv 1) (pa_cons (pv 2) (pa_cons (pe_un un_neg pe_int) pa_nil)))) (pe_call (okX_least_wires T) (hr.mono (by decide)) (by rfl) T.least_wires.g T.least_wires.F.kp T.least_wires.b .nil (passes_call (takes_of rfl rfl rfl rfl) (fun _ _ _ _ h => h)) (pa_cons (pv 1) (pa_cons (pv 2) pa_nil))))))))), ?_⟩
    have h1 : RefBW K T.x_BadBook.C T.x_Stray.C T.x_BadWindow.C H E v u := h.elim .inl fun ⟨b, d, a1, a2, a3, a4, _, a5⟩ => .inr ⟨b, d, a1, a2, a3, a4, a5⟩
    refine ⟨_, rfl, rfl, _, rfl, ite2 (fun _ => ⟨_, rfl, _, rfl, v, u, rfl, h1⟩) (fun z0 => ?_)⟩
    refine ⟨_, rfl, rfl, _, rfl, ite2 (fun _ => ⟨_, rfl, _, rfl, v, u, rfl, h1⟩) (fun z1 => ?_)⟩
    refine ⟨fun _ _ => False, ⟨_, rfl, rfl, _, rfl, ite2 (fun _ => ?_) (fun z2 => ?_)⟩, fun _ _ z => z.elim⟩
    · exact ⟨_, rfl, _, rfl, 1, rfl, v, u, .int (-1), rfl, .inl h1⟩
    · refine ⟨_, rfl, _, rfl, v, u, rfl, h.elim .inl fun ⟨b, d, a1, a2, a3, _, a4, a5⟩ => .inr ⟨b, d, a1, a2, a3, a4 ?_, a5⟩⟩
      have e : ∀ j : Nat, ¬ decide (V.int (k : Nat) = V.int (j : Nat)) = true → k ≠ j := fun j hj y => hj (decide_eq_true (by rw [y]))
      have n0 := e 0 z0
      have n1 := e 1 z1
      have n2 := e 2 z2
      omega
end
end Nv
set_option Elab.async false
set_option linter.all false
set_option maxRecDepth 100000
namespace Nv
open PySem PySem.Spec PyProof.Rows L2
section
variable {P : Program} {w : World} {K : PySem.W.Frag} {mg : Str → Option Value} {base : Heap}
/-! ### states that are none -/
def bentA : List PyData := [.none, .int 0, .str "state", dat1, .tuple [.int 0, .int 0], .tuple [.none], .tuple [.tuple []], .tuple [.tuple [.int 0]], .tuple [.tuple [.int 0, .int 0, .int 0]], .tuple [.tuple [.int 0, .none]], .tuple [.tuple [.none, .int 0]], .tuple [.tuple [.str "0", .int 0]]]
def bentB (n : Int) : List PyData := [.tuple [.tuple [.int (-1), .int 0]], .tuple [.tuple [.int 100, .int 0]], .tuple [.tuple [.bool true, .int 0]], .tuple [.tuple [.int 0, .bool false]], .tuple [.tuple [.int 0, .int (-1)]], .tuple [.tuple [.int 0, .int n]], .tuple [.tuple [.int 0, .int (10 ^ 20)]]]
def bentC : List PyData := [.tuple [.tuple [.int 1, .int 0], .tuple [.int 0, .int 0]], .tuple [.tuple [.int 5, .int 0], .tuple [.int 5, .int 0]], .tuple [.tuple [.int 0, .int 0], .tuple [.int 1, .int 0], .tuple [.int 1, .int 0]], .tuple [.tuple [.int 0, .int 0], .none]]
theorem bent_all {n : Nat} (h1 : 1 ≤ n) (h8 : n ≤ 8) : ∀ d ∈ bentA ++ bentB n ++ bentC, stateD n d = false := by
  intro d hd
  have hn : (1 : Int) ≤ n := by omega
  have hn8 : (n : Int) ≤ 8 := by omega
  rcases List.mem_append.mp hd with hd | hd
  · rcases List.mem_append.mp hd with hd | hd
    · simp only [bentA, List.mem_cons, List.not_mem_nil, or_false] at hd
      rcases hd with rfl | rfl | rfl | rfl | rfl | rfl | rfl | rfl | rfl | rfl | rfl | rfl <;> first | rfl | simp [stateD, pairsD, pairD]
    · simp only [bentB, List.mem_cons, List.not_mem_nil, or_false] at hd
      rcases hd with rfl | rfl | rfl | rfl | rfl | rfl | rfl <;> simp [stateD, pairsD, pairD]
      all_goals (first | done | (rw [if_neg (by omega)]))
  · simp only [bentC, List.mem_cons, List.not_mem_nil, or_false] at hd
    rcases hd with rfl | rfl | rfl | rfl <;> simp [stateD, pairsD, pairD, hn, h1]
theorem bent_noL (n : Int) : ∀ d ∈ bentA ++ bentB n ++ bentC, noL d = true := by
  intro d hd
  rcases List.mem_append.mp hd with hd | hd
  · rcases List.mem_append.mp hd with hd | hd
    · simp only [bentA, List.mem_cons, List.not_mem_nil, or_false] at hd
      rcases hd with rfl | rfl | rfl | rfl | rfl | rfl | rfl | rfl | rfl | rfl | rfl | rfl <;> rfl
    · simp only [bentB, List.mem_cons, List.not_mem_nil, or_false] at hd
      rcases hd with rfl | rfl | rfl | rfl | rfl | rfl | rfl <;> rfl
  · simp only [bentC, List.mem_cons, List.not_mem_nil, or_false] at hd
    rcases hd with rfl | rfl | rfl | rfl <;> rfl
theorem sc_law_bent_states : FnScope ["states", "six", "found", "message"] ["states"] (defScope s_law_bent_states) := ⟨rfl, rfl, rfl, by decide +kernel, rfl, by decide +kernel, by decide +kernel⟩
def sp_law_bent_states (K : PySem.W.Frag) : Sp := fun vs H Q _ => ∃ n : Nat, vs = [.int n] ∧ ∀ (t : Addr) (xs : List V) (H' : Hp), H t = none → H' t = some (.lst xs) → DpAll K H' xs (bentA ++ bentB n ++ bentC) → Ext [] H H' → Q (.ref t) H'
theorem six_take : ∀ i < 6, six0.take (i + 1) = six0.take i ++ [.tuple [.int (i : Int), .int 0]] ∧ noLs (six0.take i) = true := by
  intro i hi
  obtain rfl | rfl | rfl | rfl | rfl | rfl : i = 0 ∨ i = 1 ∨ i = 2 ∨ i = 3 ∨ i = 4 ∨ i = 5 := by omega
  all_goals exact ⟨rfl, rfl⟩
set_option pp.maxSteps 3000 in
theorem ok_law_bent_states (T : Tx K mg) : FnOk P w K mg base CX0 2 T.law_bent_states.f T.law_bent_states.fd ["states"] (sp_law_bent_states K) := by
  refine T.law_bent_states.F.ok sc_law_bent_states (fun vs H Q E h => ?_) (fun cdv A outer s H vs Q E hr h => ?_)
  · obtain ⟨n, rfl, _⟩ := h; rfl
  · obtain ⟨n, rfl, q⟩ := h
    refine ⟨_, (pss_cons (ps_set (i := 1) sc_law_bent_states.nd rfl (.inl rfl) (pe_callTy call_tupZ (by rfl) T.n_tuple (by decide +kernel) (pa_cons (pe_lc (own := [("message", 3)]) rfl sc_law_bent_states.nd (pi_range1 (by rfl) T.n_range (pa_cons pe_int pa_nil)) (blkOk_by (own := [("message", 3)]) (N := ["states", "six", "found", "message"]) (sc := defScope s_law_bent_states) (by decide +kernel)) (fun _ _ _ _ _ => (pg_name (i := 3) sc_law_bent_states.nd rfl (.inl rfl))) (fun _ _ _ _ _ => pts_nil) (fun _ _ _ _ _ => (pd_tup (K := K) (pds_cons (pd_var (i := 3) (pv 3)) (pds_cons pd_int pds_nil))))) pa_nil)))
      (pss_cons (ps_set (i := 2) sc_law_bent_states.nd rfl (.inl rfl) (pe_lst (pa_cons pe_non (pa_cons pe_int (pa_cons pe_str (pa_cons (pv 1) (pa_cons (pd_tup (K := K) (pds_cons pd_int (pds_cons pd_int pds_nil))) (pa_cons (pd_tup (K := K) (pds_cons pd_none pds_nil)) (pa_cons (pd_tup (K := K) (pds_cons (pd_tup (K := K) pds_nil) pds_nil)) (pa_cons (pd_tup (K := K) (pds_cons (pd_tup (K := K) (pds_cons pd_int pds_nil)) pds_nil)) (pa_cons (pd_tup (K := K) (pds_cons (pd_tup (K := K) (pds_cons pd_int (pds_cons pd_int (pds_cons pd_int pds_nil)))) pds_nil)) (pa_cons (pd_tup (K := K) (pds_cons (pd_tup (K := K) (pds_cons pd_int (pds_cons pd_none pds_nil))) pds_nil)) (pa_cons (pd_tup (K := K) (pds_cons (pd_tup (K := K) (pds_cons pd_none (pds_cons pd_int pds_nil))) pds_nil)) (pa_cons (pd_tup (K := K) (pds_cons (pd_tup (K := K) (pds_cons pd_str (pds_cons pd_int pds_nil))) pds_nil)) pa_nil))))))))))))))
      (pss_cons (ps_set (i := 2) sc_law_bent_states.nd rfl (.inl rfl) (pe_op op_cat (pv 2) (pe_lst (pa_cons (pd_tup (K := K) (pds_cons (pd_tup (K := K) (pds_cons pd_neg (pds_cons pd_int pds_nil))) pds_nil)) (pa_cons (pd_tup (K := K) (pds_cons (pd_tup (K := K) (pds_cons pd_int (pds_cons pd_int pds_nil))) pds_nil)) (pa_cons (pd_tup (K := K) (pds_cons (pd_tup (K := K) (pds_cons pd_bool (pds_cons pd_int pds_nil))) pds_nil)) (pa_cons (pd_tup (K := K) (pds_cons (pd_tup (K := K) (pds_cons pd_int (pds_cons pd_bool pds_nil))) pds_nil)) (pa_cons (pd_tup (K := K) (pds_cons (pd_tup (K := K) (pds_cons pd_int (pds_cons pd_neg pds_nil))) pds_nil)) (pa_cons (pd_tup (K := K) (pds_cons (pd_tup (K := K) (pds_cons pd_int (pds_cons (pd_var (i := 0) (pv 0)) pds_nil))) pds_nil)) (pa_cons (pe_tup (pa_cons (pe_tup (pa_cons pe_int (pa_cons (pe_op op_pow pe_int pe_int) pa_nil))) pa_nil)) pa_nil))))))))))
      (pss_one (ps_ret (pe_op op_cat (pv 2) (pd_lst (K := K) (pds_cons (pd_tup (K := K) (pds_cons (pd_tup (K := K) (pds_cons pd_int (pds_cons pd_int pds_nil))) (pds_cons (pd_tup (K := K) (pds_cons pd_int (pds_cons pd_int pds_nil))) pds_nil))) (pds_cons (pd_tup (K := K) (pds_cons (pd_tup (K := K) (pds_cons pd_int (pds_cons pd_int pds_nil))) (pds_cons (pd_tup (K := K) (pds_cons pd_int (pds_cons pd_int pds_nil))) pds_nil))) (pds_cons (pd_tup (K := K) (pds_cons (pd_tup (K := K) (pds_cons pd_int (pds_cons pd_int pds_nil))) (pds_cons (pd_tup (K := K) (pds_cons pd_int (pds_cons pd_int pds_nil))) (pds_cons (pd_tup (K := K) (pds_cons pd_int (pds_cons pd_int pds_nil))) pds_nil)))) (pds_cons (pd_tup (K := K) (pds_cons (pd_tup (K := K) (pds_cons pd_int (pds_cons pd_int pds_nil))) (pds_cons pd_none pds_nil))) pds_nil))))))))))), ?_⟩
    refine ⟨6, rfl, by decide, by decide, fun D hD => ?_⟩
    refine lc_range (lo := 0) (n := 6) (fun i H' => ∃ xs : List V, H' D = some (.lst xs) ∧ DpAll K H' xs (six0.take i) ∧ Ext [] H H') ⟨[], upd_same, by simp; exact .nil, .new hD⟩ ?_ ?_
    · rintro i H' hi ⟨xs, hX, hp, e⟩
      simp only [Int.zero_add]
      refine ⟨rfl, yes ?_⟩
      refine ⟨.tuple [.int (i : Int), .int 0], rfl, fun v H2 e2 dv => ?_⟩
      have hX2 := e2.at hX (by simp)
      have wD : Ext [D] H2 (upd H2 D (.lst (xs ++ [v]))) := .wr (by simp)
      obtain ⟨t1, t2⟩ := six_take i hi
      have hl : xs.length ≤ 6 := by rw [dpAll_len hp, List.length_take]; exact Nat.le_trans (Nat.min_le_left ..) (by omega)
      refine ⟨_, hX2, small1000 (by omega), xs ++ [v], upd_same, ?_, (e.trans e2).put hD⟩
      rw [t1]
      exact DpAll.append (DpAll.extL wD (one_lst hX2) (DpAll.ext0 e2 hp) t2) (.cons (Dp.extL wD (one_lst hX2) dv rfl) .nil)
    rintro H0 ⟨xs, hX, hp, e0⟩
    refine ⟨D, xs, rfl, .of hX, fun sx H1 hsx hH => ?_⟩
    obtain ⟨o, _, rfl⟩ := hH
    have e1 : Ext [] H0 (upd H0 sx (.frz o (.tup xs))) := .new hsx
    have dS : Dp K (upd H0 sx (.frz o (.tup xs))) (.ref sx) dat1 := .tup (.inl (.inr ⟨o, upd_same⟩)) (DpAll.ext0 e1 hp)
    have e01 : Ext [] H (upd H0 sx (.frz o (.tup xs))) := e0.trans e1
    generalize upd H0 sx (.frz o (.tup xs)) = G0 at *
    refine ⟨_, rfl, ?_⟩
    refine ⟨.tuple [.int 0, .int 0], rfl, fun av0 ag0 ae0 ad0 => ⟨.tuple [.none], rfl, fun av1 ag1 ae1 ad1 => ⟨.tuple [.tuple []], rfl, fun av2 ag2 ae2 ad2 => ⟨.tuple [.tuple [.int 0]], rfl, fun av3 ag3 ae3 ad3 => ⟨.tuple [.tuple [.int 0, .int 0, .int 0]], rfl, fun av4 ag4 ae4 ad4 => ⟨.tuple [.tuple [.int 0, .none]], rfl, fun av5 ag5 ae5 ad5 => ⟨.tuple [.tuple [.none, .int 0]], rfl, fun av6 ag6 ae6 ad6 => ⟨.tuple [.tuple [.str "0", .int 0]], rfl, fun av7 ag7 ae7 ad7 => ?_⟩⟩⟩⟩⟩⟩⟩⟩
    have ea : Ext [] G0 ag7 := (((((((ae0.trans ae1).trans ae2).trans ae3).trans ae4).trans ae5).trans ae6).trans ae7)
    refine ⟨(by show 12 ≤ sizeLine; decide), fun L1 hL1 => ?_⟩
    obtain ⟨xA, exA⟩ : ∃ x, x = [V.non, .int 0, .str (Str.ofString "state"), .ref sx, av0, av1, av2, av3, av4, av5, av6, av7] := ⟨_, rfl⟩
    rw [← exA]
    have dA : DpAll K ag7 xA bentA := by
      rw [exA]
      exact (.cons .non (.cons (.int 0) (.cons (.str _) (.cons (Dp.ext0 ea dS) (.cons (Dp.ext0 ((((((ae1.trans ae2).trans ae3).trans ae4).trans ae5).trans ae6).trans ae7) ad0) (.cons (Dp.ext0 (((((ae2.trans ae3).trans ae4).trans ae5).trans ae6).trans ae7) ad1) (.cons (Dp.ext0 ((((ae3.trans ae4).trans ae5).trans ae6).trans ae7) ad2) (.cons (Dp.ext0 (((ae4.trans ae5).trans ae6).trans ae7) ad3) (.cons (Dp.ext0 ((ae5.trans ae6).trans ae7) ad4) (.cons (Dp.ext0 (ae6.trans ae7) ad5) (.cons (Dp.ext0 ae7 ad6) (.cons ad7 .nil))))))))))))
    have lA : xA.length = 12 := dpAll_len dA
    have hA : upd ag7 L1 (.lst xA) L1 = some (.lst xA) := upd_same
    have eA : Ext [] ag7 (upd ag7 L1 (.lst xA)) := .new hL1
    have dA := DpAll.ext0 eA dA
    have e02 := (e01.trans ea).trans eA
    generalize upd ag7 L1 (.lst xA) = G1 at *
    clear ea eA exA dS e01 e1 ae0 ad0 ae1 ad1 ae2 ad2 ae3 ad3 ae4 ad4 ae5 ad5 ae6 ad6 ae7 ad7
    refine ⟨_, rfl, ?_⟩
    refine ⟨.tuple [.tuple [.int (-1), .int 0]], rfl, fun bv0 bg0 be0 bd0 => ⟨.tuple [.tuple [.int 100, .int 0]], rfl, fun bv1 bg1 be1 bd1 => ⟨.tuple [.tuple [.bool true, .int 0]], rfl, fun bv2 bg2 be2 bd2 => ⟨.tuple [.tuple [.int 0, .bool false]], rfl, fun bv3 bg3 be3 bd3 => ⟨.tuple [.tuple [.int 0, .int (-1)]], rfl, fun bv4 bg4 be4 bd4 => ⟨.tuple [.tuple [.int 0, .int (n : Int)]], rfl, fun bv5 bg5 be5 bd5 => ?_⟩⟩⟩⟩⟩⟩
    have eb : Ext [] G1 bg5 := (((((be0.trans be1).trans be2).trans be3).trans be4).trans be5)
    refine ⟨10, 20, rfl, rfl, ⟨by decide, by decide, by decide⟩, (by show 2 ≤ sizeLine; decide), fun u1 hu1 => ⟨(by show 1 ≤ sizeLine; decide), fun u2 hu2 => ⟨(by show 7 ≤ sizeLine; decide), fun L2 hL2 => ?_⟩⟩⟩
    have eu : Ext [] bg5 (upd (upd bg5 u1 (.tup [.int 0, .int (10 ^ 20)])) u2 (.tup [.ref u1])) := (Ext.new (L := []) hu1).put2 hu2
    have du : Dp K (upd (upd bg5 u1 (.tup [.int 0, .int (10 ^ 20)])) u2 (.tup [.ref u1])) (.ref u2) (.tuple [.tuple [.int 0, .int (10 ^ 20)]]) :=
      .tup (.of upd_same) (.cons (.tup (.of ((Ext.new (L := []) hu2).at upd_same (by simp))) (.cons (.int _) (.cons (.int _) .nil))) .nil)
    obtain ⟨xB, exB⟩ : ∃ x, x = [bv0, bv1, bv2, bv3, bv4, bv5, V.ref u2] := ⟨_, rfl⟩
    rw [← exB]
    have dB : DpAll K (upd (upd bg5 u1 (.tup [.int 0, .int (10 ^ 20)])) u2 (.tup [.ref u1])) xB (bentB n) := by
      rw [exB]
      exact (.cons (Dp.ext0 (((((be1.trans be2).trans be3).trans be4).trans be5).trans eu) bd0) (.cons (Dp.ext0 ((((be2.trans be3).trans be4).trans be5).trans eu) bd1) (.cons (Dp.ext0 (((be3.trans be4).trans be5).trans eu) bd2) (.cons (Dp.ext0 ((be4.trans be5).trans eu) bd3) (.cons (Dp.ext0 (be5.trans eu) bd4) (.cons (Dp.ext0 eu bd5) (.cons du .nil)))))))
    have lB : xB.length = 7 := dpAll_len dB
    have e03 := (e02.trans eb).trans eu
    have eG1 : Ext [] G1 (upd (upd bg5 u1 (.tup [.int 0, .int (10 ^ 20)])) u2 (.tup [.ref u1])) := eb.trans eu
    have hL2 : (upd (upd bg5 u1 (.tup [.int 0, .int (10 ^ 20)])) u2 (.tup [.ref u1])) L2 = none := hL2
    show (rCat (V.ref L1) (V.ref L2) (upd (upd (upd bg5 u1 (.tup [.int 0, .int (10 ^ 20)])) u2 (.tup [.ref u1])) L2 (.lst xB)) _)
    generalize (upd (upd bg5 u1 (.tup [.int 0, .int (10 ^ 20)])) u2 (.tup [.ref u1])) = G2 at *
    have eC : Ext [] G2 (upd G2 L2 (.lst xB)) := .new hL2
    have hB : upd G2 L2 (.lst xB) L2 = some (.lst xB) := upd_same
    have dB := DpAll.ext0 eC dB
    have hA := (eG1.trans eC).at hA (by simp)
    have dA := DpAll.ext0 (eG1.trans eC) dA
    have e04 := e03.trans eC
    generalize upd G2 L2 (.lst xB) = G3 at *
    refine ⟨L1, L2, xA, xB, rfl, rfl, hA, hB, by rw [lA, lB]; exact Nat.le_of_lt (small1000 (by omega)), fun L3 hL3 => ?_⟩
    have hC : upd G3 L3 (.lst (xA ++ xB)) L3 = some (.lst (xA ++ xB)) := upd_same
    have eD : Ext [] G3 (upd G3 L3 (.lst (xA ++ xB))) := .new hL3
    have dAB := DpAll.ext0 eD (DpAll.append dA dB)
    have e05 := e04.trans eD
    generalize upd G3 L3 (.lst (xA ++ xB)) = G4 at *
    refine ⟨_, rfl, bentC, rfl, by decide, fun L4 xC G5 fL4 hL4 e5 dC => ⟨L3, L4, _, xC, rfl, rfl, e5.at hC (by simp), hL4, ?_, fun L5 hL5 => ?_⟩⟩
    · have lC : xC.length = 4 := dpAll_len dC
      rw [List.length_append, lA, lB, lC]
      exact Nat.le_of_lt (small1000 (by omega))
    · have e6 : Ext [] G5 (upd G5 L5 (.lst (xA ++ xB ++ xC))) := .new hL5
      exact q L5 _ _ ((e05.trans e5).free hL5) upd_same (DpAll.ext0 e6 (DpAll.append (DpAll.ext0 e5 dAB) dC)) ((e05.trans e5).trans e6)
end
end Nv
set_option Elab.async false
set_option linter.all false
set_option maxRecDepth 100000
namespace Nv
open PySem PySem.Spec PyProof.Rows L2
section
variable {P : Program} {w : World} {K : PySem.W.Frag} {mg : Str → Option Value} {base : Heap}
/-! ### bent books -/
theorem Ext.tabsL {L : List Addr} {H H' : Hp} {TT : List (Addr × Str)} (e : Ext L H H') (hL : ∀ x ∈ L, ∀ o, H x = some o → (∃ xs, o = .lst xs)) (t : LamX.Tabs TT H) : LamX.Tabs TT H' := fun p hp => by
  obtain ⟨ps, h1, h2, h3⟩ := t p hp
  refine ⟨ps, e _ _ (fun z => ?_) h1, h2, fun pos cv hc => ?_⟩
  · obtain ⟨xs, e⟩ := hL _ z _ h1
    cases e
  · obtain ⟨c, e1, e2⟩ := h3 pos cv hc
    refine ⟨c, e1, e _ _ (fun z => ?_) e2⟩
    obtain ⟨xs, e⟩ := hL _ z _ e2
    cases e
theorem slA {K : PySem.W.Frag} {H : Hp} {a : Addr} {xs : List V} {lo hi : Option Int} {Q : VK} (h : SqT K H a xs) (q : ∀ (t : Addr) (H' : Hp), SqT K H' t (cutV xs lo hi) → Ext [] H H' → Q (.ref t) H') : rSlA K (.ref a) lo hi H Q := by
  refine ⟨a, xs, rfl, h, fun hw => ?_, fun _ p hp => q p _ (.of upd_same) (.new hp)⟩
  have e : cutV xs lo hi = xs := by
    unfold cutV
    rw [hw.1, hw.2, List.drop_zero, Nat.sub_zero, List.take_length]
  exact q a H (by rw [e]; exact h) .refl
theorem catA {K : PySem.W.Frag} {H : Hp} {a b : Addr} {xs ys : List V} {Q : VK} (h1 : SqT K H a xs) (h2 : SqT K H b ys) (hl : xs.length + ys.length ≤ 1000) (q : ∀ (t : Addr) (H' : Hp), SqT K H' t (xs ++ ys) → Ext [] H H' → Q (.ref t) H') : rCatA K (.ref a) (.ref b) H Q := by
  refine ⟨a, b, xs, ys, rfl, rfl, h1, h2, Nat.le_of_lt (small1000 hl), fun e => ?_, fun _ e => ?_, fun _ _ p hp => q p _ (.of upd_same) (.new hp)⟩
  · exact q b H (by rw [e]; exact h2) .refl
  · exact q a H (by rw [e, List.append_nil]; exact h1) .refl
theorem cutTakeN (xs : List V) (n : Nat) : cutV xs none (some (n : Int)) = xs.take n := by
  unfold cutV
  rw [HT.sIx_nat, HT.sIx_none, List.drop_zero, Nat.sub_zero]
  by_cases h : n ≤ xs.length
  · rw [Nat.min_eq_left h]
  · rw [Nat.min_eq_right (by omega), List.take_length, List.take_of_length_le (by omega)]
theorem cutDropN (xs : List V) (n : Nat) : cutV xs (some (n : Int)) none = xs.drop n := by
  unfold cutV
  rw [HT.sIx_nat, HT.sIx_none]
  by_cases h : n ≤ xs.length
  · rw [Nat.min_eq_left h, List.take_of_length_le (by rw [List.length_drop]; exact Nat.le_refl _)]
  · rw [Nat.min_eq_right (by omega), List.drop_of_length_le (Nat.le_refl _), List.drop_of_length_le (by omega), List.take_nil]
theorem bent_bad {b : Book} (fb : FormB b) {k : Nat} (hk : k < b.length) {d : PyData} (hd : stateD b.length d = false) : formErr (.tuple ((b.map stD).take k ++ [d] ++ (b.map stD).drop (k + 1))) = some (k : Int) := by
  have h8 := fb.eight
  have hl : ((b.map stD).take k ++ [d] ++ (b.map stD).drop (k + 1)).length = b.length := by
    rw [List.length_append, List.length_append, List.length_take, List.length_drop, List.length_map, List.length_singleton]
    omega
  show (if 1 ≤ ((b.map stD).take k ++ [d] ++ (b.map stD).drop (k + 1)).length ∧ ((b.map stD).take k ++ [d] ++ (b.map stD).drop (k + 1)).length ≤ 8 then firstBad ((b.map stD).take k ++ [d] ++ (b.map stD).drop (k + 1)).length ((b.map stD).take k ++ [d] ++ (b.map stD).drop (k + 1)) 0 else some (-1)) = some (k : Int)
  rw [hl, if_pos ⟨fb.one, h8⟩]
  have tl : ((b.map stD).take k).length = k := by rw [List.length_take, List.length_map]; omega
  have := first_at (n := b.length) ((b.map stD).take k ++ [d] ++ (b.map stD).drop (k + 1)) 0 k d (by
    rw [List.append_assoc, List.getElem?_append_right (by omega), tl, Nat.sub_self]
    rfl) hd (fun j e hj he => by
    rw [List.append_assoc, List.getElem?_append_left (by omega), List.getElem?_take_of_lt hj, List.getElem?_map] at he
    cases e2 : b[j]? with
    | none => rw [e2] at he; cases he
    | some s =>
      rw [e2] at he
      cases he
      exact state_ok (fb.st s (List.mem_of_getElem? e2)))
  rw [this, Nat.zero_add]
/-! ### a lambda handed to _law_win_heard, where several defs make lambdas -/
open LamX in
theorem pe_heardM {K : PySem.W.Frag} {mg : Str → Option Value} {X : Cx} (hG : X.A.guards = some []) {k : Nat} (T : Tx K mg) {c P : Addr} {params : Arguments} {body : Expr} {scope : Scope} {t : XK → TE} {p lpos pos : Pos} (eK : X.K = K) (em : X.mg = mg) (hg : Gl X "_law_win_heard") (TB : TabB X.base X.mg c P) {TT : List (Addr × Str)} {qn : Str} (hT : (P, qn) ∈ TT) (hN : ∀ p ∈ TT, p.1 = P → p.2 = qn) (hcode : X.env.code = .ref c)
    (hr : Room (k + 2) X.A) (L : LamS X.env.scope scope) (hdef : defaultsOf params X.env = ([], [])) (hbind : ∀ (q : Str) (cl : List (Str × Addr)) (pm cv ctv : Value), bindArgs (PySem.W.kla_fn "<lambda>" q params body scope cl pm cv ctv) ⟨[], []⟩ = pure [])
    (hbody : ∀ (A : Around) (outer : List Env) (s : Shared) (H : Hp) (E : XK) (f c' : Addr), Room k (A.deeper (lamEnv X scope s.heap.objs.size f c')) → PE (lamCx X A outer s H E scope f c') body (t E)) (hq : qn = X.env.qual ++ "<lambda>" := by rfl) :
    PE X (.Call (.Name "_law_win_heard" p) [.Lambda params body scope lpos] [] pos) (tLam TT (THeard T) t) := by
  subst eK em
  subst hq
  obtain ⟨oc, od, kV, doc, pm, an, cdv, ct, osl, hfd, lk, cd⟩ := T.law_win_heard.F.ex
  rw [hfd] at lk
  have hb := T.law_win_heard.b
  rw [hfd] at hb
  exact pe_lamcall hg T.law_win_heard.g T.law_win_heard.F.kp lk cd hb sc_law_win_heard rfl (.inl rfl) (heard_gives T (k := k + 1) hr hG rfl rfl) TB hcode hT hN hr L hdef hbind hbody
/-! ### books refused -/
/-- a pair of a thing that is no book and what is due -/
def CaseD (x : PyData) : Prop := ∃ (d : PyData) (e : Int), x = .tuple [d, .int e] ∧ noL d = true ∧ formErr d = some e ∧ -1 ≤ e ∧ e ≤ 8
def cases0 : List PyData := [.tuple [.none, .int (-1)], .tuple [.tuple [], .int (-1)], .tuple [.tuple (List.replicate 9 (.tuple [])), .int (-1)], .tuple [.int 5, .int (-1)], .tuple [.str "", .int (-1)]]
theorem cases0_ok : ∀ x ∈ cases0, CaseD x := by
  intro x hx
  simp only [cases0, List.mem_cons, List.not_mem_nil, or_false] at hx
  rcases hx with rfl | rfl | rfl | rfl | rfl <;> exact ⟨_, _, rfl, rfl, rfl, by decide, by decide⟩
theorem cases_noL {ds : List PyData} (h : ∀ x ∈ ds, CaseD x) : noLs ds = true := noLs_iff.mpr fun d hd => by
  obtain ⟨d', e, rfl, h1, _⟩ := h d hd
  show (noL d' && (noL (.int e) && true)) = true
  rw [h1]
  rfl
def qBk : Str := (Str.ofString "_law_books_refused" ++ Str.ofString ".<locals>.") ++ Str.ofString "<lambda>"
theorem sc_law_books_refused : FnScope ["pool", "book", "at", "cases", "bad", "due", "thing", "text", "one", "two", "what"] ["pool", "book"] (defScope s_law_books_refused) := ⟨rfl, rfl, rfl, by decide +kernel, rfl, by decide +kernel, by decide +kernel⟩
def sp_law_books_refused (K : PySem.W.Frag) (TT : List (Addr × Str)) : Sp := fun vs H Q _ => ∃ (p l : Addr) (v : V) (b : Book), vs = [.ref p, v] ∧ PoolAt H p l ∧ BkV K H v b ∧ OkB b ∧ LamX.Tabs TT H ∧ ∀ H', PoolAt H' p l → BkV K H' v b → LamX.Tabs TT H' → Q (.bl true) H'
set_option pp.maxSteps 2000
set_option maxHeartbeats 4000000 in
theorem ok_law_books_refused (T : Tx K mg) {cl Pt : Addr} {kV doc pm ct oc : Value} {an od : Option Addr} {osl : Array (Option Value)}
    (lk : K.lookup T.law_books_refused.f = some ⟨oc, od, .func (PySem.W.fnOf "_law_books_refused" "_law_books_refused" (defArgs s_law_books_refused) (defBody s_law_books_refused) (defScope s_law_books_refused) .none kV doc pm an (.ref cl) ct), osl⟩) (cd : PySem.W.codeIn K (.ref cl) "_law_books_refused" = true) (TB : LamX.TabB base mg cl Pt) {TT : List (Addr × Str)} (hT : (Pt, qBk) ∈ TT) (hN : ∀ p ∈ TT, p.1 = Pt → p.2 = qBk) :
    FnG P w K mg base CX0 11 T.law_books_refused.f T.law_books_refused.fd ["pool", "book"] (sp_law_books_refused K TT) := by
  rw [fd_of T.law_books_refused lk]
  refine fnG_of lk cd sc_law_books_refused (fun vs H Q E h => ?_) fun A outer s H vs Q E hG hr h => ?_
  · obtain ⟨p, l, v, b, rfl, _⟩ := h; rfl
  · obtain ⟨p, l, v, b, rfl, P0, hb, ok, T0, q⟩ := h
    have fb := ok.toFormB
    have h8 := fb.eight
    have h1 := fb.one
    refine ⟨_, PSs.nox (pss_cons (ps_par (i := 2) (j := 3) (by rfl) sc_law_books_refused.nd rfl rfl (by decide) rfl rfl (pa_cons (pe_call (ok_law_draw T) (hr.mono (by decide)) (by rfl) T.law_draw.g T.law_draw.F.kp T.law_draw.b .nil pass0 (pa_cons (pv 0) (pa_cons (pe_callB call_len_seq (by rfl) T.n_len PySem.boot_len (pa_cons (pv 1) pa_nil)) pa_nil))) (pa_cons (pd_lst (K := K) (pds_cons (pd_tup (K := K) (pds_cons pd_none (pds_cons pd_neg pds_nil))) (pds_cons (pd_tup (K := K) (pds_cons (pd_tup (K := K) pds_nil) (pds_cons pd_neg pds_nil))) (pds_cons (pd_tup (K := K) (pds_cons (pd_rep (pds_cons (pd_tup (K := K) pds_nil) pds_nil)) (pds_cons pd_neg pds_nil))) (pds_cons (pd_tup (K := K) (pds_cons pd_int (pds_cons pd_neg pds_nil))) (pds_cons (pd_tup (K := K) (pds_cons pd_str (pds_cons pd_neg pds_nil))) pds_nil)))))) pa_nil)) (by rfl))
      (pss_cons (ps_for PassesOwn.never rfl (pi_list (pe_call (ok_law_bent_states T) (hr.mono (by decide)) (by rfl) T.law_bent_states.g T.law_bent_states.F.kp T.law_bent_states.b .nil pass0 (pa_cons (pe_callB call_len_seq (by rfl) T.n_len PySem.boot_len (pa_cons (pv 1) pa_nil)) pa_nil))) (pg_name (i := 4) sc_law_books_refused.nd rfl (.inl rfl))
        (pss_one (ps_expr (pe_bm PySem.F.plainAttrs_list PySem.F.slot_list_append PySem.F.type_list_append mt_append (pv 3) (pa_cons (pe_tup (pa_cons (pe_op op_catA (pe_op op_catA (pe_slice sl_tupA (pv 1) po_none (po_some (pv 2))) (pe_tup (pa_cons (pv 4) pa_nil))) (pe_slice sl_tupA (pv 1) (po_some (pe_op op_add (pv 2) pe_int)) po_none)) (pa_cons (pv 2) pa_nil))) pa_nil)))))
      (pss_cons (ps_set (i := 5) sc_law_books_refused.nd rfl (.inl rfl) (pe_op op_cat (pe_lc (own := [("thing", 6), ("what", 10)]) rfl sc_law_books_refused.nd (pi_list (pv 3)) (blkOk_by (own := [("thing", 6), ("what", 10)]) (N := ["pool", "book", "at", "cases", "bad", "due", "thing", "text", "one", "two", "what"]) (sc := defScope s_law_books_refused) (by decide +kernel)) (fun _ _ _ _ _ => (pg_tupK (n := 2) K rfl (pgs_cons (pg_name (i := 6) sc_law_books_refused.nd rfl (.inl rfl)) (pgs_cons (pg_name (i := 10) sc_law_books_refused.nd rfl (.inl rfl)) pgs_nil)))) (fun _ _ _ _ _ => pts_nil) (fun _ _ _ _ _ => (pe_tup (pa_cons (pv 6) (pa_cons (pe_op op_add_str pe_str (pe_callB (call_reprAK K hr.units hG) (by rfl) T.n_repr (by decide +kernel) (pa_cons (pv 10) pa_nil))) pa_nil))))) (pe_call (okN_law_win_no_books T) (hr.mono (by decide)) (by rfl) T.law_win_no_books.g T.law_win_no_books.F.kp T.law_win_no_books.b .nil pass0 (pa_cons (pv 0) (pa_cons (pv 1) pa_nil)))))
      (pss_cons (ps_for PassesOwn.never rfl (pi_list (pv 5)) (pg_tup rfl (pgs_cons (pg_name (i := 6) sc_law_books_refused.nd rfl (.inr rfl)) (pgs_cons (pg_name (i := 7) sc_law_books_refused.nd rfl (.inl rfl)) pgs_nil)))
        (pss_cons (ps_asg (pe_tup (pa_cons (pe_call (ok_law_draw T) (hr.mono (by decide)) (by rfl) T.law_draw.g T.law_draw.F.kp T.law_draw.b .nil pass0 (pa_cons (pv 0) (pa_cons pe_int pa_nil))) (pa_cons (pe_call (ok_law_draw T) (hr.mono (by decide)) (by rfl) T.law_draw.g T.law_draw.F.kp T.law_draw.b .nil pass0 (pa_cons (pv 0) (pa_cons pe_int pa_nil))) pa_nil))) (pg_tup rfl (pgs_cons (pg_name (i := 8) sc_law_books_refused.nd rfl (.inr rfl)) (pgs_cons (pg_name (i := 9) sc_law_books_refused.nd rfl (.inr rfl)) pgs_nil))))
        (pss_cons (ps_if (pt_cmpR op_ne (pe_heardM hG (k := 8) T rfl rfl (by rfl) TB hT hN rfl (hr.mono (by decide)) (LamX.lamS_by (sc := defScope s_law_books_refused) (by decide +kernel)) rfl (fun _ _ _ _ _ => rfl) (fun _ _ _ _ _ _ _ hr => (pe_call (okX_law_alone T) (hr.mono (by decide)) (by rfl) T.law_alone.g T.law_alone.F.kp T.law_alone.b .nil (passes_call (takes_of rfl rfl rfl rfl) (fun _ _ _ _ h => h)) (pa_cons (pv 8) (pa_cons (pv 6) pa_nil))))) (pv 7) (nomark _))
          (pss_one (ps_ret pe_bl))
          pss_nil)
        (pss_cons (ps_if (pt_cmpR op_ne (pe_heardM hG (k := 8) T rfl rfl (by rfl) TB hT hN rfl (hr.mono (by decide)) (LamX.lamS_by (sc := defScope s_law_books_refused) (by decide +kernel)) rfl (fun _ _ _ _ _ => rfl) (fun _ _ _ _ _ _ _ hr => (pe_call (okX_law_more T) (hr.mono (by decide)) (by rfl) T.law_more.g T.law_more.F.kp T.law_more.b .nil (passes_call (takes_of rfl rfl rfl rfl) (fun _ _ _ _ h => h)) (pa_cons (pv 9) (pa_cons (pv 6) (pa_cons pe_int pa_nil)))))) (pv 7) (nomark _))
          (pss_one (ps_ret pe_bl))
          pss_nil)
        (pss_one (ps_if (pt_cmpR op_ne (pe_heardM hG (k := 8) T rfl rfl (by rfl) TB hT hN rfl (hr.mono (by decide)) (LamX.lamS_by (sc := defScope s_law_books_refused) (by decide +kernel)) rfl (fun _ _ _ _ _ => rfl) (fun _ _ _ _ _ _ _ hr => (pe_call (okX_leads T) (hr.mono (by decide)) (by rfl) T.leads.g T.leads.F.kp T.leads.b .nil (passes_call (takes_of rfl rfl rfl rfl) (fun _ _ _ _ h => h)) (pa_cons (pv 6) (pa_cons (pe_un un_neg pe_int) (pa_cons pe_non (pa_cons (pe_un un_neg pe_int) pa_nil))))))) (pv 7) (nomark _))
          (pss_one (ps_ret pe_bl))
          pss_nil))))))
      (pss_one (ps_ret pe_bl)))))), ?_⟩
    obtain ⟨a, ls, rfl, ha, hls⟩ := id hb
    have llen := Paired.len hls
    refine ⟨_, rfl, _, rfl, a, _, rfl, .inr ha, p, l, _, rfl, P0, by omega, by omega, fun r H1 r0 r1 P1 e1 => ?_⟩
    obtain ⟨k, rfl⟩ : ∃ k : Nat, r = (k : Int) := ⟨r.toNat, by omega⟩
    have hk : k < b.length := by omega
    have T1 := e1.tabsL P0.only T0
    have hb1 := hb.ext e1 P0.lsts
    have ha1 := e1.tup P0.lsts ha
    refine ⟨cases0, rfl, by decide, fun L0 x0 H2 fL0 hL0 e2 d0 => ?_⟩
    have l0 : x0.length = 5 := dpAll_len d0
    obtain ⟨n1, n2⟩ := P1.off fL0
    have ha2 := e2.tup Lsts.nil ha1
    refine ⟨_, _, rfl, ?_⟩
    refine ⟨_, rfl, a, _, rfl, .inr ha2, ls.length, rfl, fun t xs H3 ft ht dt e3 => ⟨t, rfl, ⟨_, .of ht⟩, ?_⟩⟩
    have hb3 := (hb1.ext0 e2).ext0 e3
    have hL3 := e3.at hL0 (by simp)
    have P3 := (P1.ext0 e2).ext0 e3
    have T3 := (T1.ext e2.toSame).ext e3.toSame
    have d03 := DpAll.ext0 e3 d0
    rw [llen] at dt
    have lxs : xs.length = 23 := dpAll_len dt
    have tL : t ≠ L0 := fun z => by rw [z, hL0] at ft; cases ft
    clear ha2 ha1 hb1 T1 P1 d0 e1 e2 e3 ft fL0 hL0 ha hls hb P0 T0
    refine for_list (K := K) (a := t) (xs := xs) (fun j σ H' => ∃ (y4 : Option V) (zs : List V) (ds : List PyData), σ = [some (.ref p), some (.ref a), some (.int k), some (.ref L0), y4, none, none, none, none, none, none] ∧ H' L0 = some (.lst zs) ∧ zs.length = 5 + j ∧ DpAll K H' zs ds ∧ (∀ x ∈ ds, CaseD x) ∧ Ext [L0] H3 H' ∧ PoolAt H' p l)
      ⟨_, x0, cases0, rfl, hL3, by rw [l0], d03, cases0_ok, .refl, P3⟩ (fun j σ H' _ ⟨_, _, _, _, _, _, _, _, e, _⟩ => .of (e.at ht (by simp [tL]))) ?_ ?_
    · rintro j u σ H4 hu ⟨y4, zs, ds, rfl, hX, hl, hd, hc, e4, P4⟩
      have hj : j < 23 := by
        have := (List.getElem?_eq_some_iff.mp hu).1
        omega
      obtain ⟨dj, hdj, hDj⟩ := dpAll_get' dt hu
      have hdm := List.mem_of_getElem? hdj
      have bad := bent_all h1 h8 dj hdm
      have nl := bent_noL _ dj hdm
      have hDj := Dp.extL e4 (one_lst hL3) hDj nl
      have hb4 := hb3.ext e4 (one_lst hL3)
      obtain ⟨a', ls', ea, ha4, hls4⟩ := id hb4
      cases ea
      have llen4 := Paired.len hls4
      have dls := dp_sts hls4
      refine ⟨_, rfl, .inl ⟨rfl, _, .of hX⟩, _, rfl, _, rfl, _, rfl, slA ha4 fun s1 H5 hs1 e5 => ?_⟩
      rw [cutTakeN] at hs1
      refine ⟨_, rfl, (by show 1 ≤ sizeLine; decide), fun s2 hs2 => ?_⟩
      have e6 : Ext [] H5 (upd H5 s2 (.tup [u])) := .new hs2
      refine catA (e6.tup Lsts.nil hs1) (.of upd_same) (by rw [List.length_take]; show _ + 1 ≤ 1000; omega) fun s3 H7 hs3 e7 => ?_
      have f7 := (e5.trans e6).trans e7
      refine ⟨_, rfl, _, rfl, _, _, rfl, rfl, _, rfl, ?_⟩
      dsimp only [tNoPart]
      refine slA (f7.tup Lsts.nil ha4) fun s4 H8 hs4 e8 => ?_
      rw [show cutV ls' (some ((k : Int) + 1)) none = ls'.drop (k + 1) from cutDropN ls' (k + 1)] at hs4
      refine catA (e8.tup Lsts.nil hs3) hs4 (by rw [List.length_append, List.length_take, List.length_drop]; show _ + 1 + _ ≤ 1000; omega) fun s5 H9 hs5 e9 => ?_
      have f9 := (f7.trans e8).trans e9
      refine ⟨_, rfl, (by show 2 ≤ sizeLine; decide), fun te hte => ?_⟩
      have ee : Ext [] H9 (upd H9 te (.tup [.ref s5, .int k])) := .new hte
      have fe := f9.trans ee
      have hXe := fe.at hX (by simp)
      have hbent : Dp K (upd H9 te (.tup [.ref s5, .int k])) (.ref te) (.tuple [.tuple ((b.map stD).take k ++ [dj] ++ (b.map stD).drop (k + 1)), .int k]) :=
        .tup (.of upd_same) (.cons (.tup (ee.tup Lsts.nil hs5) (DpAll.append (DpAll.append (dpAll_take k (DpAll.ext0 fe dls)) (.cons (Dp.ext0 fe hDj) .nil)) (dpAll_drop (k + 1) (DpAll.ext0 fe dls)))) (.cons (.int _) .nil))
      have cB : CaseD (.tuple [.tuple ((b.map stD).take k ++ [dj] ++ (b.map stD).drop (k + 1)), .int k]) := by
        refine ⟨_, _, rfl, ?_, bent_bad fb hk bad, by omega, by omega⟩
        show noLs _ = true
        rw [noLs_iff]
        intro y hy
        rcases List.mem_append.mp hy with hy | hy
        · rcases List.mem_append.mp hy with hy | hy
          · obtain ⟨s0, _, rfl⟩ := List.mem_map.mp (List.mem_of_mem_take hy)
            exact noL_st s0
          · rw [List.mem_singleton.mp hy]
            exact nl
        · obtain ⟨s0, _, rfl⟩ := List.mem_map.mp (List.mem_of_mem_drop hy)
          exact noL_st s0
      have cA : ∀ x ∈ ds ++ [.tuple [.tuple ((b.map stD).take k ++ [dj] ++ (b.map stD).drop (k + 1)), .int k]], CaseD x := fun x hx => by
        rcases List.mem_append.mp hx with hx | hx
        · exact hc x hx
        · rw [List.mem_singleton.mp hx]
          exact cB
      have wL : Ext [L0] (upd H9 te (.tup [.ref s5, .int k])) (upd (upd H9 te (.tup [.ref s5, .int k])) L0 (.lst (zs ++ [.ref te]))) := .wr (by simp)
      refine ⟨L0, _, _, rfl, rfl, hXe, by rw [hl]; exact small1000 (by omega), _, zs ++ [.ref te], _, rfl, upd_same, by rw [List.length_append, hl]; rfl, DpAll.extL wL (one_lst hXe) (DpAll.append (DpAll.ext0 fe hd) (.cons hbent .nil)) (cases_noL cA), cA, (e4.trans fe.weak).trans wL, (P4.ext0 fe).put n1 n2⟩
    · rintro σ H4 ⟨y4, zs, ds, rfl, hX, hl, hd, hc, e4, P4⟩
      rw [lxs] at hl
      have hb4 := hb3.ext e4 (one_lst hL3)
      have T4 := e4.tabsL (fun x hx o ho => by rw [List.mem_singleton.mp hx, hL3] at ho; cases ho; exact ⟨_, rfl⟩) T3
      clear hb3 T3 P3 e4 d03 dt hL3 ht
      refine ⟨_, rfl, L0, rfl, ⟨_, .of hX⟩, fun D hD => ?_⟩
      obtain ⟨fDp, fDl⟩ := P4.off hD
      have DL : D ≠ L0 := fun z => by rw [z, hX] at hD; cases hD
      refine lc_list (K := K) (a := L0) (xs := zs) (fun j H' => ∃ ys : List V, H' D = some (.lst ys) ∧ ys.length = j ∧ (∀ x ∈ ys, Entry K T.x_BadBook.C T.x_Stray.C H' x) ∧ Ext [] H4 H') ⟨[], upd_same, rfl, (fun x hx => nomatch hx), .new hD⟩ (fun j H' _ ⟨_, _, _, _, e⟩ => .of (e.at hX (by simp))) ?_ ?_
      · rintro j u H5 hu ⟨ys, hY, hyl, hye, e5⟩
        have hj : j < zs.length := (List.getElem?_eq_some_iff.mp hu).1
        obtain ⟨dj, hdj, hDj⟩ := dpAll_get' hd hu
        obtain ⟨d, e, rfl, nl, hf, el, eh⟩ := hc dj (List.mem_of_getElem? hdj)
        have hDj := Dp.ext0 e5 hDj
        obtain ⟨tc, vt, rfl, htc, hvt⟩ : ∃ tc vt, u = .ref tc ∧ SqT K H5 tc [vt, .int e] ∧ Dp K H5 vt d := by
          cases hDj with
          | tup h1 h2 =>
            cases h2 with
            | cons r1 t1 =>
              cases t1 with
              | cons r2 t2 =>
                cases t2
                cases r2
                exact ⟨_, _, rfl, h1, r1⟩
        have shE := show_int ⟨el, eh⟩
        refine ⟨tc, _, rfl, htc, rfl, _, _, rfl, _, _, rfl, rfl, rfl, yes ?_⟩
        have sz : (Str.ofString "BadBook ").length = 8 := by decide +kernel
        refine ⟨_, rfl, _, rfl, _, .int e, rfl, .int e, shE.1, _, _, rfl, rfl, Nat.le_of_lt (small1000 (by have := shE.2; omega)), (by show 2 ≤ sizeLine; decide), fun te hte => ?_⟩
        have e6 : Ext [] H5 (upd H5 te (.tup [vt, .str (Str.ofString "BadBook " ++ (PyData.int e).shown)])) := .new hte
        have hY6 := e6.at hY (by simp)
        have wD : Ext [D] (upd H5 te (.tup [vt, .str (Str.ofString "BadBook " ++ (PyData.int e).shown)])) (upd (upd H5 te (.tup [vt, .str (Str.ofString "BadBook " ++ (PyData.int e).shown)])) D (.lst (ys ++ [.ref te]))) := .wr (by simp)
        refine ⟨_, hY6, by rw [hyl]; exact small1000 (by omega), ys ++ [.ref te], upd_same, by rw [List.length_append, hyl]; rfl, fun x hx => ?_, (e5.trans e6).put hD⟩
        refine Entry.ext ?_ wD (one_lst hY6)
        rcases List.mem_append.mp hx with hx | hx
        · exact (hye x hx).ext0 e6
        · rw [List.mem_singleton.mp hx]
          exact ⟨te, vt, d, _, e, "BadBook ", rfl, .of upd_same, Dp.ext0 e6 hvt, nl, .form hf, .inl ⟨rfl, rfl⟩, el, eh⟩
      · rintro H5 ⟨ys, hY, hyl, hye, e5⟩
        have P5 := P4.ext0 e5
        have hb5 := hb4.ext0 e5
        have T5 := T4.ext e5.toSame
        refine ⟨_, rfl, _, rfl, p, l, .ref a, b, rfl, P5, hb5, ok, fun t2 ws H6 ht2 hw wl P6 e6 => ?_⟩
        have hY6 := e6 _ _ (off2 fDp fDl) hY
        refine ⟨D, t2, _, _, rfl, rfl, hY6, ht2, by rw [hyl, hl]; exact Nat.le_of_lt (small1000 (by omega)), fun L hL => ?_⟩
        have hb6 := hb5.ext e6 P5.lsts
        have T6 := e6.tabsL P5.only T5
        have e7 : Ext [] H6 (upd H6 L (.lst (ys ++ ws))) := .new hL
        have hLs : upd H6 L (.lst (ys ++ ws)) L = some (.lst (ys ++ ws)) := upd_same
        have P7 := P6.ext0 e7
        obtain ⟨Lp, Ll⟩ := P6.off hL
        have hb7 := hb6.ext0 e7
        have T7 := T6.ext e7.toSame
        have en7 : ∀ x ∈ ys ++ ws, Entry K T.x_BadBook.C T.x_Stray.C (upd H6 L (.lst (ys ++ ws))) x := fun x hx => by
          refine Entry.ext0 ?_ e7
          rcases List.mem_append.mp hx with hx | hx
          · exact (hye x hx).ext e6 P5.lsts
          · exact hw x hx
        generalize upd H6 L (.lst (ys ++ ws)) = H7 at *
        generalize ys ++ ws = es at *
        clear e7 e6 hw hY6 hY hye e5 P5 hb5 T5 P6 hb6 T6 hL hc hd hX P4 hb4 T4
        refine ⟨_, rfl, L, rfl, ⟨_, .of hLs⟩, ?_⟩
        refine for_list (K := K) (a := L) (xs := es) (fun j σ H' => ∃ y6 y7 y8 y9 : Option V, σ = [some (.ref p), some (.ref a), some (.int k), some (.ref L0), y4, some (.ref L), y6, y7, y8, y9, none] ∧ PoolAt H' p l ∧ BkV K H' (.ref a) b ∧ LamX.Tabs TT H' ∧ H' L = some (.lst es) ∧ ∀ x ∈ es, Entry K T.x_BadBook.C T.x_Stray.C H' x)
          ⟨_, _, _, _, rfl, P7, hb7, T7, hLs, en7⟩ (fun j σ H' _ ⟨_, _, _, _, _, _, _, _, e, _⟩ => .of e) ?_ ?_
        · rintro j u σ H8 hu ⟨y6, y7, y8, y9, rfl, P8, hb8, T8, hL8, en8⟩
          obtain ⟨te, vt, d, C, e, nm, rfl, h1, h3, nl, href, hC, el, eh⟩ := en8 u (List.mem_of_getElem? hu)
          have shE := show_int ⟨el, eh⟩
          have ne : (!decide (V.str (nm ++ (PyData.int e).shown) = V.str (nm ++ toString e))) = false := str_ne _
          refine ⟨te, _, rfl, h1, rfl, _, _, rfl, _, _, rfl, rfl, ?_⟩
          refine ⟨_, rfl, p, l, 8, rfl, P8, by decide, by decide, fun r1 H9 r10 r11 P9 e9 => ⟨_, rfl, p, l, 4, rfl, P9, by decide, by decide, fun r2 Ha r20 r21 Pa ea => ⟨(by show 2 ≤ sizeLine; decide), fun tt htt => ⟨tt, _, rfl, .of upd_same, rfl, _, _, rfl, _, _, rfl, rfl, ?_⟩⟩⟩⟩
          obtain ⟨k1, rfl⟩ : ∃ k : Nat, r1 = (k : Int) := ⟨r1.toNat, by omega⟩
          obtain ⟨k2, rfl⟩ : ∃ k : Nat, r2 = (k : Int) := ⟨r2.toNat, by omega⟩
          have eb : Ext [] Ha (upd Ha tt (.tup [.int (k1 : Nat), .int (k2 : Nat)])) := .new htt
          have eab := (e9.trans ea).trans eb.weak
          have Pb := Pa.ext0 eb
          have hbb := hb8.ext eab P8.lsts
          have Tb := eab.tabsL P8.only T8
          have hLb := eab _ _ (off2 Lp Ll) hL8
          have enb : ∀ x ∈ es, Entry K T.x_BadBook.C T.x_Stray.C (upd Ha tt (.tup [.int (k1 : Nat), .int (k2 : Nat)])) x := fun x hx => (en8 x hx).ext eab P8.lsts
          have h3b := Dp.extL eab P8.lsts h3 nl
          show _
          generalize upd Ha tt (.tup [.int (k1 : Nat), .int (k2 : Nat)]) = Hb at *
          refine ⟨Tb, fun Hc eNc Tc => ?_⟩
          refine ⟨_, rfl, _, rfl, k1, vt, rfl, .inl ⟨d, C, e, Dp.extN eNc h3b, href, fun dx Hd hdx hdd ed => ⟨nm, C, dx, .int e, .int e, rfl, hC.elim (fun z => .inl z) (fun z => .inr (.inl z)), rfl, hdd, .int e, shE.1, shE.2, ?_⟩⟩⟩
          refine ⟨_, rfl, rfl, _, rfl, ?_⟩
          rw [ne]
          refine iteF ?_
          have eXd := eNc.trans (ext_toN ed)
          have Td := Tc.ext ed.toSame
          have h3d := Dp.extN eXd h3b
          refine ⟨Td, fun He eNe Te => ?_⟩
          refine ⟨_, rfl, _, rfl, k2, vt, .int 0, rfl, .inl ⟨d, C, e, Dp.extN eNe h3d, href, fun dx Hf hdx hdf ef => ⟨nm, C, dx, .int e, .int e, rfl, hC.elim (fun z => .inl z) (fun z => .inr (.inl z)), rfl, hdf, .int e, shE.1, shE.2, ?_⟩⟩⟩
          refine ⟨_, rfl, rfl, _, rfl, ?_⟩
          rw [ne]
          refine iteF ?_
          have eXf := eNe.trans (ext_toN ef)
          have Tf := Te.ext ef.toSame
          have h3f := Dp.extN eXf h3d
          refine ⟨Tf, fun Hg eNg Tg => ?_⟩
          refine ⟨_, rfl, 1, rfl, 1, rfl, vt, .int (-1), .non, .int (-1), rfl, .inl ⟨d, C, e, Dp.extN eNg h3f, href, fun dx Hh hdx hdh eh => ⟨nm, C, dx, .int e, .int e, rfl, hC.elim (fun z => .inl z) (fun z => .inr (.inl z)), rfl, hdh, .int e, shE.1, shE.2, ?_⟩⟩⟩
          refine ⟨_, rfl, rfl, _, rfl, ?_⟩
          rw [ne]
          refine iteF ?_
          have eXh := eNg.trans (ext_toN eh)
          have Th := Tg.ext eh.toSame
          have h3h := Dp.extN eXh h3f
          have eN := (eXd.trans eXf).trans eXh
          exact ⟨_, _, _, _, rfl, Pb.extN eN, hbb.extN eN, Th, eN _ _ hLb (fun ps z => nomatch z), fun x hx => (enb x hx).extN eN⟩
        · rintro σ H8 ⟨y6, y7, y8, y9, rfl, P8, hb8, T8, hL8, en8⟩
          exact q H8 P8 hb8 T8
end
end Nv
set_option Elab.async false
set_option linter.all false
set_option maxRecDepth 100000
namespace Nv
open PySem PySem.Spec PyProof.Rows L2
section
variable {P : Program} {w : World} {K : PySem.W.Frag} {mg : Str → Option Value} {base : Heap}
/-! ### wrong states, messages, numbers, windows -/
theorem shw {d : PyData} (a : d.showable = true) (b : d.hasDict = false) (c : d.depth ≤ 8) (e : d.shown.length ≤ 100) : ShowOk d ∧ d.shown.length ≤ 100 := ⟨⟨a, b, Nat.le_trans c (by decide), Nat.le_of_lt (small1000 (by omega))⟩, e⟩
def badSt4 (n st : Nat) : List PyData := [.int (n : Int), .int (-1), .none, .bool true, .str "1", .tuple [.int (st : Int)]]
theorem badSt4_ok {n st : Nat} (h8 : n ≤ 8) (hs : st < n) : ∀ d ∈ badSt4 n st, inD d 0 ((n : Int) - 1) = false ∧ ShowOk d ∧ d.shown.length ≤ 100 := by
  intro d hd
  simp only [badSt4, List.mem_cons, List.not_mem_nil, or_false] at hd
  rcases hd with rfl | rfl | rfl | rfl | rfl | rfl
  · exact ⟨decide_eq_false (by omega), show_int ⟨by omega, by omega⟩⟩
  · refine ⟨?_, show_int ⟨by omega, by omega⟩⟩
    show decide ((0 : Int) ≤ -1 ∧ (-1 : Int) ≤ (n : Int) - 1) = false
    exact decide_eq_false (by omega)
  · exact ⟨rfl, shw (by decide +kernel) (by decide +kernel) (by decide +kernel) (by decide +kernel)⟩
  · exact ⟨rfl, shw (by decide +kernel) (by decide +kernel) (by decide +kernel) (by decide +kernel)⟩
  · exact ⟨rfl, shw (by decide +kernel) (by decide +kernel) (by decide +kernel) (by decide +kernel)⟩
  · refine ⟨rfl, ?_⟩
    obtain rfl | rfl | rfl | rfl | rfl | rfl | rfl | rfl : st = 0 ∨ st = 1 ∨ st = 2 ∨ st = 3 ∨ st = 4 ∨ st = 5 ∨ st = 6 ∨ st = 7 := by omega
    all_goals exact shw (by decide +kernel) (by decide +kernel) (by decide +kernel) (by decide +kernel)
def badMg4 : List PyData := [.int (-1), .int 100, .none, .bool true, .str "0", .tuple [.int 0]]
theorem badMg4_ok {b : Book} (fb : FormB b) {s : Nat} (hs : s < b.length) : ∀ d ∈ badMg4, msgD (mvs b s) d = false ∧ ShowOk d ∧ d.shown.length ≤ 100 := by
  have no : ∀ i : Int, (∀ p ∈ mvs b s, (p.1 : Int) ≠ i) → msgD (mvs b s) (.int i) = false := fun i h => List.any_eq_false.mpr fun p hp => by simpa using h p hp
  intro d hd
  simp only [badMg4, List.mem_cons, List.not_mem_nil, or_false] at hd
  rcases hd with rfl | rfl | rfl | rfl | rfl | rfl
  · exact ⟨no _ fun p hp => by omega, shw (by decide +kernel) (by decide +kernel) (by decide +kernel) (by decide +kernel)⟩
  · exact ⟨no _ fun p hp => by have := (fb.ok hs).msg p hp; omega, shw (by decide +kernel) (by decide +kernel) (by decide +kernel) (by decide +kernel)⟩
  all_goals exact ⟨rfl, shw (by decide +kernel) (by decide +kernel) (by decide +kernel) (by decide +kernel)⟩
def badNs4 : List PyData := [.int (-1), .none, .bool false, .bool true, .str "1", .tuple [.int 1]]
theorem badNs4_ok : ∀ d ∈ badNs4, manyD d = false ∧ noL d = true := by
  intro d hd
  simp only [badNs4, List.mem_cons, List.not_mem_nil, or_false] at hd
  rcases hd with rfl | rfl | rfl | rfl | rfl | rfl
  all_goals exact ⟨by decide +kernel, by decide +kernel⟩
theorem wins_bad4 : ∀ d ∈ noWins, numD d = false ∧ (d = .none ∨ (d ≠ .none ∧ winD d = false)) := by
  intro d hd
  simp only [noWins, List.mem_cons, List.not_mem_nil, or_false] at hd
  rcases hd with rfl | rfl | rfl | rfl | rfl | rfl | rfl | rfl
  · exact ⟨rfl, .inl rfl⟩
  all_goals exact ⟨by decide +kernel, .inr ⟨fun z => (nomatch z), by decide +kernel⟩⟩
def qMr : Str := (Str.ofString "_law_more_refused" ++ Str.ofString ".<locals>.") ++ Str.ofString "<lambda>"
theorem sc_law_more_refused : FnScope ["pool", "book", "state", "there", "bad", "message", "to", "way"] ["pool", "book"] (defScope s_law_more_refused) := ⟨rfl, rfl, rfl, by decide +kernel, rfl, by decide +kernel, by decide +kernel⟩
def sp_law_more_refused (K : PySem.W.Frag) (TT : List (Addr × Str)) : Sp := fun vs H Q _ => ∃ (p l : Addr) (v : V) (b : Book), vs = [.ref p, v] ∧ PoolAt H p l ∧ BkV K H v b ∧ OkB b ∧ LamX.Tabs TT H ∧ ∀ H', LamX.Tabs TT H' → Q (.bl true) H'
set_option pp.maxSteps 2000
set_option maxHeartbeats 4000000 in
theorem ok_law_more_refused (T : Tx K mg) {cl Pt : Addr} {kV doc pm ct oc : Value} {an od : Option Addr} {osl : Array (Option Value)}
    (lk : K.lookup T.law_more_refused.f = some ⟨oc, od, .func (PySem.W.fnOf "_law_more_refused" "_law_more_refused" (defArgs s_law_more_refused) (defBody s_law_more_refused) (defScope s_law_more_refused) .none kV doc pm an (.ref cl) ct), osl⟩) (cd : PySem.W.codeIn K (.ref cl) "_law_more_refused" = true) (TB : LamX.TabB base mg cl Pt) {TT : List (Addr × Str)} (hT : (Pt, qMr) ∈ TT) (hN : ∀ p ∈ TT, p.1 = Pt → p.2 = qMr) :
    FnG P w K mg base CX0 11 T.law_more_refused.f T.law_more_refused.fd ["pool", "book"] (sp_law_more_refused K TT) := by
  rw [fd_of T.law_more_refused lk]
  refine fnG_of lk cd sc_law_more_refused (fun vs H Q E h => ?_) fun A outer s H vs Q E hG hr h => ?_
  · obtain ⟨p, l, v, b, rfl, _⟩ := h; rfl
  · obtain ⟨p, l, v, b, rfl, P4, hb4, ok, T4, q⟩ := h
    have fb := ok.toFormB
    have h8 := fb.eight
    have h1 := fb.one
    refine ⟨_, PSs.nox (pss_cons (ps_set (i := 2) sc_law_more_refused.nd rfl (.inr rfl) (pe_call (ok_law_draw T) (hr.mono (by decide)) (by rfl) T.law_draw.g T.law_draw.F.kp T.law_draw.b .nil pass0 (pa_cons (pv 0) (pa_cons (pe_callB call_len_seq (by rfl) T.n_len PySem.boot_len (pa_cons (pv 1) pa_nil)) pa_nil))))
      (pss_cons (ps_setLc (i := 3) (own := [("message", 5), ("to", 6)]) rfl sc_law_more_refused.nd rfl rfl (sw_true rfl rfl rfl (by decide +kernel)) (pi_tup (pe_ix ix_tup (pv 1) (pv 2) (fun _ _ => rfl))) (blkOk_by (own := [("message", 5), ("to", 6)]) (N := ["pool", "book", "state", "there", "bad", "message", "to", "way"]) (sc := defScope s_law_more_refused) (by decide +kernel)) (fun _ _ _ _ _ => (pg_tupK (n := 2) K rfl (pgs_cons (pg_name (i := 5) sc_law_more_refused.nd rfl (.inl rfl)) (pgs_cons (pg_name (i := 6) sc_law_more_refused.nd rfl (.inl rfl)) pgs_nil)))) (fun _ _ _ _ _ => pts_nil) (fun _ _ _ _ _ => (pv 5)))
      (pss_cons (ps_for PassesOwn.never rfl (pi_list (pe_lst (pa_cons (pe_callB call_len_seq (by rfl) T.n_len PySem.boot_len (pa_cons (pv 1) pa_nil)) (pa_cons (pe_un un_neg pe_int) (pa_cons pe_non (pa_cons pe_bl (pa_cons pe_str (pa_cons (pe_tup (pa_cons (pv 2) pa_nil)) pa_nil)))))))) (pg_name (i := 4) sc_law_more_refused.nd rfl (.inr rfl))
        (pss_cons (ps_if (pt_cmpR op_ne (pe_heardM hG (k := 8) T rfl rfl (by rfl) TB hT hN rfl (hr.mono (by decide)) (LamX.lamS_by (sc := defScope s_law_more_refused) (by decide +kernel)) rfl (fun _ _ _ _ _ => rfl) (fun _ _ _ _ _ _ _ hr => (pe_call (okX_leads T) (hr.mono (by decide)) (by rfl) T.leads.g T.leads.F.kp T.leads.b .nil (passes_call (takes_of rfl rfl rfl rfl) (fun _ _ _ _ h => h)) (pa_cons (pv 1) (pa_cons (pv 4) (pa_cons (pe_un un_neg pe_int) (pa_cons pe_non pa_nil))))))) (pe_op op_add_str pe_str (pe_callB (call_reprA hr.units hG) (by rfl) T.n_repr (by decide +kernel) (pa_cons (pv 4) pa_nil))) (nomark _))
          (pss_one (ps_ret pe_bl))
          pss_nil)
        (pss_one (ps_if (pt_cmpR op_ne (pe_heardM hG (k := 8) T rfl rfl (by rfl) TB hT hN rfl (hr.mono (by decide)) (LamX.lamS_by (sc := defScope s_law_more_refused) (by decide +kernel)) rfl (fun _ _ _ _ _ => rfl) (fun _ _ _ _ _ _ _ hr => (pe_call (okX_special T) (hr.mono (by decide)) (by rfl) T.special.g T.special.F.kp T.special.b .nil (passes_call (takes_of rfl rfl rfl rfl) (fun _ _ _ _ h => h)) (pa_cons (pv 1) (pa_cons pe_int (pa_cons (pv 4) pa_nil)))))) (pe_op op_add_str pe_str (pe_callB (call_reprA hr.units hG) (by rfl) T.n_repr (by decide +kernel) (pa_cons (pv 4) pa_nil))) (nomark _))
          (pss_one (ps_ret pe_bl))
          pss_nil))))
      (pss_cons (ps_for PassesOwn.never rfl (pi_list (pe_lst (pa_cons (pe_un un_neg pe_int) (pa_cons pe_int (pa_cons pe_non (pa_cons pe_bl (pa_cons pe_str (pa_cons (pe_tup (pa_cons pe_int pa_nil)) pa_nil)))))))) (pg_name (i := 4) sc_law_more_refused.nd rfl (.inr rfl))
        (pss_one (ps_if (pt_cmpR op_ne (pe_heardM hG (k := 8) T rfl rfl (by rfl) TB hT hN rfl (hr.mono (by decide)) (LamX.lamS_by (sc := defScope s_law_more_refused) (by decide +kernel)) rfl (fun _ _ _ _ _ => rfl) (fun _ _ _ _ _ _ _ hr => (pe_call (okX_leads T) (hr.mono (by decide)) (by rfl) T.leads.g T.leads.F.kp T.leads.b .nil (passes_call (takes_of rfl rfl rfl rfl) (fun _ _ _ _ h => h)) (pa_cons (pv 1) (pa_cons (pv 2) (pa_cons (pv 4) (pa_cons (pe_un un_neg pe_int) pa_nil))))))) (pe_op op_add_str pe_str (pe_callB (call_reprA hr.units hG) (by rfl) T.n_repr (by decide +kernel) (pa_cons (pv 4) pa_nil))) (nomark _))
          (pss_one (ps_ret pe_bl))
          pss_nil)))
      (pss_cons (ps_for PassesOwn.never rfl (pi_list (pv 3)) (pg_name (i := 5) sc_law_more_refused.nd rfl (.inr rfl))
        (pss_cons (ps_set (i := 4) sc_law_more_refused.nd rfl (.inr rfl) (pe_call (ok_law_pick T) (hr.mono (by decide)) (by rfl) T.law_pick.g T.law_pick.F.kp T.law_pick.b .nil pass0 (pa_cons (pv 0) (pa_cons (pe_lst (pa_cons (pe_un un_neg pe_int) (pa_cons pe_non (pa_cons pe_bl (pa_cons pe_bl (pa_cons pe_str (pa_cons (pe_tup (pa_cons pe_int pa_nil)) pa_nil))))))) pa_nil))))
        (pss_one (ps_if (pt_cmpR op_ne (pe_heardM hG (k := 8) T rfl rfl (by rfl) TB hT hN rfl (hr.mono (by decide)) (LamX.lamS_by (sc := defScope s_law_more_refused) (by decide +kernel)) rfl (fun _ _ _ _ _ => rfl) (fun _ _ _ _ _ _ _ hr => (pe_call (okX_leads T) (hr.mono (by decide)) (by rfl) T.leads.g T.leads.F.kp T.leads.b .nil (passes_call (takes_of rfl rfl rfl rfl) (fun _ _ _ _ h => h)) (pa_cons (pv 1) (pa_cons (pv 2) (pa_cons (pv 5) (pa_cons (pv 4) pa_nil))))))) pe_str (nomark _))
          (pss_one (ps_ret pe_bl))
          pss_nil))))
      (pss_cons (ps_for PassesOwn.never rfl (pi_list (pe_call0 (ok_law_win_no_windows T) (hr.mono (by decide)) (by rfl) T.law_win_no_windows.g T.law_win_no_windows.F.kp T.law_win_no_windows.b .nil pass0)) (pg_name (i := 4) sc_law_more_refused.nd rfl (.inr rfl))
        (pss_cons (ps_if (pt_cmpR (op_neD (hr.units)) (pe_lc (own := [("way", 7)]) rfl sc_law_more_refused.nd (pi_range1 (by rfl) T.n_range (pa_cons pe_int pa_nil)) (blkOk_by (own := [("way", 7)]) (N := ["pool", "book", "state", "there", "bad", "message", "to", "way"]) (sc := defScope s_law_more_refused) (by decide +kernel)) (fun _ _ _ _ _ => (pg_name (i := 7) sc_law_more_refused.nd rfl (.inr rfl))) (fun _ _ _ _ _ => pts_one (pt_mid (pt_cmpR op_ne (pe_heardM hG (k := 8) T rfl rfl (by rfl) TB hT hN rfl (hr.mono (by decide)) (LamX.lamS_by (by kernel_rfl)) rfl (fun _ _ _ _ _ => rfl) (fun _ _ _ _ _ _ _ hr => (pe_call (okX_law_more T) (hr.mono (by decide)) (by rfl) T.law_more.g T.law_more.F.kp T.law_more.b .nil (passes_call (takes_of rfl rfl rfl rfl) (fun _ _ _ _ h => h)) (pa_cons (pv 7) (pa_cons (pv 1) (pa_cons (pv 4) pa_nil)))))) pe_str (nomark _)))) (fun _ _ _ _ _ => (pv 7))) (pe_lst pa_nil) (nomark _))
          (pss_one (ps_ret pe_bl))
          pss_nil)
        (pss_cons (ps_if (PW.pt (pw_and (pt_cmpR op_notN (pv 4) pe_non (nomark _)) (pw_and1 (pt_cmpR op_ne (pe_heardM hG (k := 8) T rfl rfl (by rfl) TB hT hN rfl (hr.mono (by decide)) (LamX.lamS_by (sc := defScope s_law_more_refused) (by decide +kernel)) rfl (fun _ _ _ _ _ => rfl) (fun _ _ _ _ _ _ _ hr => (pe_call (okX_least_wires T) (hr.mono (by decide)) (by rfl) T.least_wires.g T.least_wires.F.kp T.least_wires.b .nil (passes_call (takes_of rfl rfl rfl rfl) (fun _ _ _ _ h => h)) (pa_cons (pv 1) (pa_cons (pv 4) pa_nil))))) pe_str (nomark _)))))
          (pss_one (ps_ret pe_bl))
          pss_nil)
        (pss_one (ps_if (PW.pt (pw_and (pt_cmpR op_notN (pv 4) pe_non (nomark _)) (pw_and1 (pt_cmpR op_ne (pe_heardM hG (k := 8) T rfl rfl (by rfl) TB hT hN rfl (hr.mono (by decide)) (LamX.lamS_by (sc := defScope s_law_more_refused) (by decide +kernel)) rfl (fun _ _ _ _ _ => rfl) (fun _ _ _ _ _ _ _ hr => (pe_call (okX_made_window T) (hr.mono (by decide)) (by rfl) T.made_window.g T.made_window.F.kp T.made_window.b .nil (passes_call (takes_of rfl rfl rfl rfl) (fun _ _ _ _ h => h)) (pa_cons (pv 4) pa_nil)))) pe_str (nomark _)))))
          (pss_one (ps_ret pe_bl))
          pss_nil)))))
      (pss_one (ps_ret pe_bl)))))))), ?_⟩
    obtain ⟨a, ls, rfl, ha4, hls⟩ := id hb4
    have llen := Paired.len hls
    -- state, there
    refine ⟨_, rfl, _, rfl, a, _, rfl, .inr ha4, p, l, _, rfl, P4, by omega, by omega, fun r H5 r0 r1 P5 e5 => ?_⟩
    obtain ⟨st, rfl⟩ : ∃ j : Nat, r = (j : Int) := ⟨r.toNat, by omega⟩
    have hs : st < b.length := by omega
    have T5 := e5.tabsL P4.only T4
    have hb5 := hb4.ext e5 P4.lsts
    clear T4 e5 hb4 ha4 P4
    obtain ⟨a', ls', ea, ha5, hls5⟩ := id hb5
    cases ea
    have llen' := Paired.len hls5
    obtain ⟨u, hu, c, ps, rfl, hc, hps⟩ := Paired.get hls5 (mvs_lt hs)
    have plen := Paired.len hps
    have five := (fb.ok hs).few
    refine ⟨_, rfl, _, rfl, a, _, _, _, rfl, rfl, ha5, atI_nat hu, c, rfl, ⟨_, hc.sq⟩, fun D hD => ?_⟩
    refine lc_tup (K := K) (a := c) (xs := ps.map V.ref) (fun i H' => H' D = some (.lst ((((mvs b st).take i).map (·.1)).map nV)) ∧ Ext [] H5 H') ⟨by simp; exact upd_same, .new hD⟩ (fun i H' _ ⟨_, e⟩ => (e.tz Lsts.nil hc).sq) ?_ ?_
    · rintro i v H' hv ⟨hX, e⟩
      obtain ⟨g, hg, rfl⟩ := map_at hv
      obtain ⟨pp, hpp, hcp⟩ := Paired.get' hps hg
      refine ⟨g, _, rfl, hcp.ext0 e, rfl, _, _, rfl, _, _, rfl, rfl, rfl, yes ?_⟩
      refine ⟨_, rfl, _, hX, ?_, ?_, e.put hD⟩
      · rw [List.length_map, List.length_map, List.length_take]
        exact small1000 (by omega)
      · rw [upd_same, List.take_add_one, hpp, List.map_append, List.map_append]
        rfl
    · rintro H6 ⟨hX, e6⟩
      rw [List.length_map, plen, List.take_length] at hX
      have hX : H6 D = some (.lst (((mvs b st).map (·.1)).map nV)) := hX
      have P6 := P5.ext0 e6
      have hb6 := hb5.ext0 e6
      have T6 := T5.ext e6.toSame
      have ha6 := e6.tup Lsts.nil ha5
      obtain ⟨D1, D2⟩ := P5.off hD
      clear hps hu hc ha5 hls5 hb5 P5 T5 e6 hD
      -- states
      refine ⟨_, rfl, a, _, rfl, .inr ha6, 1, rfl, _, rfl, (by show 1 ≤ sizeLine; decide), fun t1 ht1 => ⟨(by show 6 ≤ sizeLine; decide), fun t2 ht2 => ?_⟩⟩
      obtain ⟨xs, exs⟩ : ∃ xs : List V, xs = [V.int ls'.length, (fun i : Int => V.int (-i)) 1, .non, .bl true, .str (Str.ofString "1"), .ref t1] := ⟨_, rfl⟩
      rw [← exs]
      have e7 : Ext [] H6 (upd (upd H6 t1 (.tup [.int st])) t2 (.lst xs)) := (Ext.new (L := []) ht1).put2 ht2
      have ht3 : upd (upd H6 t1 (.tup [.int st])) t2 (.lst xs) t2 = some (.lst xs) := upd_same
      have hds : DpAll K (upd (upd H6 t1 (.tup [.int st])) t2 (.lst xs)) xs (badSt4 ls'.length st) := by
        rw [exs]
        exact .cons (.int _) (.cons (.int _) (.cons .non (.cons (.bl _) (.cons (.str _) (.cons (.tup ((Ext.new (L := []) ht2).tup Lsts.nil (.of upd_same)) (.cons (.int _) .nil)) .nil)))))
      rw [llen'] at hds
      refine ⟨t2, rfl, ⟨_, .of ht3⟩, ?_⟩
      generalize upd (upd H6 t1 (.tup [.int st])) t2 (.lst xs) = H7 at *
      have T7 := T6.ext e7.toSame
      have hb7 := hb6.ext0 e7
      refine for_list (K := K) (a := t2) (xs := xs) (fun j σ H' => ∃ y4 y5 y6 y7 : Option V, σ = [some (.ref p), some (.ref a), some (.int st), some (.ref D), y4, y5, y6, y7] ∧ LamX.ExtN H7 H' ∧ LamX.Tabs TT H')
        ⟨_, _, _, _, rfl, .refl _, T7⟩ (fun j σ H' _ ⟨_, _, _, _, _, eN, _⟩ => .of (eN _ _ ht3 (fun ps z => nomatch z))) ?_ ?_
      · rintro j u σ H8 hu ⟨y4, y5, y6, y7, rfl, eN8, T8⟩
        obtain ⟨dj, hdj, hDj⟩ := dpAll_get' (DpAll.extN eN8 hds) hu
        obtain ⟨b1, b2, b3⟩ := badSt4_ok h8 hs dj (List.mem_of_getElem? hdj)
        have hb8 := hb7.extN eN8
        have sz : (Str.ofString "BadState ").length = 9 := by decide +kernel
        refine ⟨T8, fun H9 eN9 T9 => ?_⟩
        refine ⟨_, rfl, _, rfl, 1, rfl, .ref a, u, .int (-1), .non, rfl, .inr (.inl ⟨b, dj, hb8.extN eN9, ok, Dp.extN eN9 hDj, b1, fun dx Ha hdx hda ea => ⟨"BadState ", _, dx, u, dj, rfl, .inr (.inr (.inl ⟨rfl, rfl⟩)), rfl, hda, Dp.ext0 ea (Dp.extN eN9 hDj), b2, b3, ?_⟩⟩)⟩
        have eNa := eN9.trans (ext_toN ea)
        refine ⟨_, rfl, u, dj, rfl, Dp.extN eNa hDj, b2, _, _, rfl, rfl, Nat.le_of_lt (small1000 (by omega)), rfl, _, rfl, ?_⟩
        rw [str_ne]
        refine iteF ?_
        have Ta := T9.ext ea.toSame
        refine ⟨Ta, fun Hb eNb Tb => ?_⟩
        have hDb := Dp.extN eNb (Dp.extN eNa hDj)
        refine ⟨_, rfl, _, rfl, .ref a, .int 1, u, rfl, .inr ⟨b, 1, dj, (hb8.extN eNa).extN eNb, ok, rfl, by decide, hDb, b1, fun dx Hc hdx hdc ec => ⟨"BadState ", _, dx, u, dj, rfl, .inr (.inr (.inl ⟨rfl, rfl⟩)), rfl, hdc, Dp.ext0 ec hDb, b2, b3, ?_⟩⟩⟩
        refine ⟨_, rfl, u, dj, rfl, Dp.ext0 ec hDb, b2, _, _, rfl, rfl, Nat.le_of_lt (small1000 (by omega)), rfl, _, rfl, ?_⟩
        rw [str_ne]
        exact iteF ⟨_, _, _, _, rfl, (eN8.trans eNa).trans (eNb.trans (ext_toN ec)), Tb.ext ec.toSame⟩
      · rintro σ H8 ⟨y4, y5, y6, y7, rfl, eN8, T8⟩
        have P8 := (P6.ext0 e7).extN eN8
        have hb8 := hb7.extN eN8
        have hX8 := eN8 _ _ (e7.at hX (by simp)) (fun ps z => nomatch z)
        clear P6 hb6 T6 hX ha6 e7 T7 hb7 hds ht3 ht1 ht2 eN8 exs
        clear xs
        -- messages
        refine ⟨1, rfl, (by show 1 ≤ sizeLine; decide), fun t1 ht1 => ⟨(by show 6 ≤ sizeLine; decide), fun t2 ht2 => ?_⟩⟩
        obtain ⟨xs, exs⟩ : ∃ xs : List V, xs = [(fun i : Int => V.int (-i)) 1, .int 100, .non, .bl true, .str (Str.ofString "0"), .ref t1] := ⟨_, rfl⟩
        rw [← exs]
        have e9 : Ext [] H8 (upd (upd H8 t1 (.tup [.int 0])) t2 (.lst xs)) := (Ext.new (L := []) ht1).put2 ht2
        have ht3 : upd (upd H8 t1 (.tup [.int 0])) t2 (.lst xs) t2 = some (.lst xs) := upd_same
        have hds : DpAll K (upd (upd H8 t1 (.tup [.int 0])) t2 (.lst xs)) xs badMg4 := by
          rw [exs]
          exact .cons (.int _) (.cons (.int _) (.cons .non (.cons (.bl _) (.cons (.str _) (.cons (.tup ((Ext.new (L := []) ht2).tup Lsts.nil (.of upd_same)) (.cons (.int _) .nil)) .nil)))))
        refine ⟨t2, rfl, ⟨_, .of ht3⟩, ?_⟩
        generalize upd (upd H8 t1 (.tup [.int 0])) t2 (.lst xs) = H9 at *
        have T9 := T8.ext e9.toSame
        have hb9 := hb8.ext0 e9
        refine for_list (K := K) (a := t2) (xs := xs) (fun j σ H' => ∃ y4 y5 y6 y7 : Option V, σ = [some (.ref p), some (.ref a), some (.int st), some (.ref D), y4, y5, y6, y7] ∧ LamX.ExtN H9 H' ∧ LamX.Tabs TT H')
          ⟨_, _, _, _, rfl, .refl _, T9⟩ (fun j σ H' _ ⟨_, _, _, _, _, eN, _⟩ => .of (eN _ _ ht3 (fun ps z => nomatch z))) ?_ ?_
        · rintro j u σ Ha hu ⟨y4, y5, y6, y7, rfl, eNa, Ta⟩
          obtain ⟨dj, hdj, hDj⟩ := dpAll_get' (DpAll.extN eNa hds) hu
          obtain ⟨b1, b2, b3⟩ := badMg4_ok fb hs dj (List.mem_of_getElem? hdj)
          have hba := hb9.extN eNa
          have sz : (Str.ofString "NoMessage ").length = 10 := by decide +kernel
          refine ⟨Ta, fun Hb eNb Tb => ?_⟩
          refine ⟨_, rfl, _, rfl, _, rfl, 1, rfl, .ref a, .int st, u, .int (-1), rfl, .inr (.inr (.inl ⟨b, st, dj, hba.extN eNb, ok, rfl, hs, Dp.extN eNb hDj, b1, fun dx Hc hdx hdc ec => ⟨"NoMessage ", _, dx, u, dj, rfl, .inr (.inr (.inr (.inl ⟨rfl, rfl⟩))), rfl, hdc, Dp.ext0 ec (Dp.extN eNb hDj), b2, b3, ?_⟩⟩))⟩
          refine ⟨_, rfl, u, dj, rfl, Dp.ext0 ec (Dp.extN eNb hDj), b2, _, _, rfl, rfl, Nat.le_of_lt (small1000 (by omega)), rfl, _, rfl, ?_⟩
          rw [str_ne]
          exact iteF ⟨_, _, _, _, rfl, (eNa.trans eNb).trans (ext_toN ec), Tb.ext ec.toSame⟩
        · rintro σ Ha ⟨y4, y5, y6, y7, rfl, eNa, Ta⟩
          have Pa := (P8.ext0 e9).extN eNa
          have hba := hb9.extN eNa
          have hXa := eNa _ _ (e9.at hX8 (by simp)) (fun ps z => nomatch z)
          clear P8 hb8 T8 hX8 e9 T9 hb9 hds ht3 ht1 ht2 eNa exs
          clear xs
          -- numbers
          refine ⟨_, rfl, D, rfl, ⟨_, .of hXa⟩, ?_⟩
          refine for_list (K := K) (a := D) (xs := ((mvs b st).map (·.1)).map nV) (fun j σ H' => ∃ y4 y5 y6 y7 : Option V, σ = [some (.ref p), some (.ref a), some (.int st), some (.ref D), y4, y5, y6, y7] ∧ PoolAt H' p l ∧ BkV K H' (.ref a) b ∧ LamX.Tabs TT H' ∧ H' D = some (.lst (((mvs b st).map (·.1)).map nV)))
            ⟨_, _, _, _, rfl, Pa, hba, Ta, hXa⟩ (fun j σ H' _ ⟨_, _, _, _, _, _, _, _, e⟩ => .of e) ?_ ?_
          · rintro j m σ Hb hm ⟨y4, y5, y6, y7, rfl, Pb, hbb, Tb, hXb⟩
            obtain ⟨pp, hpm, rfl⟩ : ∃ pp, pp ∈ mvs b st ∧ m = nV pp.1 := by
              obtain ⟨m1, h1', rfl⟩ := List.mem_map.mp (List.mem_of_getElem? hm)
              obtain ⟨pp, h2', rfl⟩ := List.mem_map.mp h1'
              exact ⟨pp, h2', rfl⟩
            refine ⟨_, rfl, 1, rfl, (by show 1 ≤ sizeLine; decide), fun t1 ht1 => ⟨(by show 6 ≤ sizeLine; decide), fun t2 ht2 => ?_⟩⟩
            obtain ⟨xs, exs⟩ : ∃ xs : List V, xs = [(fun i : Int => V.int (-i)) 1, .non, .bl false, .bl true, .str (Str.ofString "1"), .ref t1] := ⟨_, rfl⟩
            rw [← exs]
            have ec : Ext [] Hb (upd (upd Hb t1 (.tup [.int 1])) t2 (.lst xs)) := (Ext.new (L := []) ht1).put2 ht2
            have ht3 : upd (upd Hb t1 (.tup [.int 1])) t2 (.lst xs) t2 = some (.lst xs) := upd_same
            have hds : DpAll K (upd (upd Hb t1 (.tup [.int 1])) t2 (.lst xs)) xs badNs4 := by
              rw [exs]
              exact .cons (.int _) (.cons .non (.cons (.bl _) (.cons (.bl _) (.cons (.str _) (.cons (.tup ((Ext.new (L := []) ht2).tup Lsts.nil (.of upd_same)) (.cons (.int _) .nil)) .nil)))))
            have lx : xs.length = 6 := by rw [exs]; rfl
            obtain ⟨o1, o2⟩ := (Pb.ext0 (Ext.new (o := .tup [.int 1]) ht1)).off ht2
            generalize upd (upd Hb t1 (.tup [.int 1])) t2 (.lst xs) = Hc at *
            have Pc := Pb.ext0 ec
            have hbc := hbb.ext0 ec
            have Tc := Tb.ext ec.toSame
            have hXc := ec.at hXb (by simp)
            refine ⟨p, l, t2, xs, rfl, Pc, .of ht3, o1, o2, by rw [lx]; decide, by rw [lx]; decide, fun i u Hd hu Pd ed => ?_⟩
            obtain ⟨dj, hdj, hDj⟩ := dpAll_get' hds hu
            obtain ⟨b2, nl⟩ := badNs4_ok dj (List.mem_of_getElem? hdj)
            have hDj := Dp.extL ed Pc.lsts hDj nl
            have hbd := hbc.ext ed Pc.lsts
            have Td := ed.tabsL Pc.only Tc
            have hXd := ed _ _ (off2 D1 D2) hXc
            refine ⟨Td, fun He eNe Te => ?_⟩
            refine ⟨_, rfl, _, rfl, _, rfl, _, rfl, .ref a, .int st, .int pp.1, u, rfl, .inr (.inr (.inr ⟨b, st, pp, dj, hbd.extN eNe, ok, rfl, hs, hpm, rfl, Dp.extN eNe hDj, b2, fun dx Hf hdx hdf ef => ⟨"BadMany ", _, dx, .int 0, .int 0, rfl, .inr (.inr (.inr (.inr (.inl ⟨rfl, rfl⟩)))), rfl, hdf, .int 0, (show_int ⟨by decide, by decide⟩).1, (show_int ⟨by decide, by decide⟩).2, ?_⟩⟩))⟩
            refine ⟨rfl, _, rfl, ?_⟩
            have ne : (!decide (V.str (Str.ofString "BadMany " ++ (PyData.int 0).shown) = V.str "BadMany 0")) = false := by
              have : (Str.ofString "BadMany " ++ (PyData.int 0).shown) = Str.ofString "BadMany 0" := by decide +kernel
              rw [this]
              exact str_ne _
            rw [ne]
            have eNf := eNe.trans (ext_toN ef)
            exact iteF ⟨_, _, _, _, rfl, Pd.extN eNf, hbd.extN eNf, Te.ext ef.toSame, eNf _ _ hXd (fun ps z => nomatch z)⟩
          · rintro σ Hb ⟨y4, y5, y6, y7, rfl, Pb, hbb, Tb, hXb⟩
            clear hba Pa Ta hXa hXb Pb
            -- windows
            refine ⟨rfl, fun t xs Hc ht hds ec => ⟨t, rfl, ⟨_, .of ht⟩, ?_⟩⟩
            have Tc := Tb.ext ec.toSame
            have hbc := hbb.ext0 ec
            have ne : (!decide (V.str (Str.ofString "BadWindow " ++ (PyData.int 0).shown) = V.str "BadWindow 0")) = false := by
              have : (Str.ofString "BadWindow " ++ (PyData.int 0).shown) = Str.ofString "BadWindow 0" := by decide +kernel
              rw [this]
              exact str_ne _
            refine for_list (K := K) (a := t) (xs := xs) (fun j σ H' => ∃ y4 y5 y6 y7 : Option V, σ = [some (.ref p), some (.ref a), some (.int st), some (.ref D), y4, y5, y6, y7] ∧ LamX.ExtN Hc H' ∧ LamX.Tabs TT H')
              ⟨_, _, _, _, rfl, .refl _, Tc⟩ (fun j σ H' _ ⟨_, _, _, _, _, eN, _⟩ => .of (eN _ _ ht (fun ps z => nomatch z))) ?_ ?_
            · rintro j u σ Hd hu ⟨y4, y5, y6, y7, rfl, eNd, Td⟩
              obtain ⟨dj, hdj, hDj⟩ := dpAll_get' (DpAll.extN eNd hds) hu
              obtain ⟨b1, b2⟩ := wins_bad4 dj (List.mem_of_getElem? hdj)
              have hbd := hbc.extN eNd
              refine ⟨3, rfl, by decide, by decide, fun L hL => ?_⟩
              have eL : Ext [] Hd (upd Hd L (.lst [])) := .new hL
              have TL := Td.ext eL.toSame
              have hbL := hbd.ext0 eL
              have hDL := Dp.ext0 eL hDj
              have eNL := eNd.trans (ext_toN eL)
              have hLs : upd Hd L (.lst []) L = some (.lst []) := upd_same
              refine lc_range (lo := 0) (n := 3) (fun i H' => H' L = some (.lst []) ∧ LamX.ExtN (upd Hd L (.lst [])) H' ∧ LamX.Tabs TT H') ⟨hLs, .refl _, TL⟩ ?_ ?_
              · rintro m H2 hm ⟨hD2, e2, T2⟩
                refine ⟨rfl, fun x H' => x = false ∧ H' L = some (.lst []) ∧ LamX.ExtN (upd Hd L (.lst [])) H' ∧ LamX.Tabs TT H', ?_, ?_⟩
                · refine ⟨T2, fun H3 e3 T3 => ?_⟩
                  have e23 := e2.trans e3
                  refine ⟨_, rfl, _, rfl, _, rfl, 0 + m, .ref a, u, by simp, .inr ⟨b, dj, hbL.extN e23, ok, Dp.extN e23 hDL, b1, fun h3 => absurd h3 (by omega), fun dx H4 hdx hd4 e4 => ⟨"BadWindow ", _, dx, .int 0, .int 0, rfl, .inr (.inr (.inr (.inr (.inr (.inl ⟨rfl, rfl⟩))))), rfl, hd4, .int 0, (show_int ⟨by decide, by decide⟩).1, (show_int ⟨by decide, by decide⟩).2, ?_⟩⟩⟩
                  refine ⟨rfl, _, rfl, ne, ?_⟩
                  exact ⟨e4.at (e3 _ _ hD2 (fun ps z => nomatch z)) (by simp), e23.trans (ext_toN e4), T3.ext e4.toSame⟩
                · rintro x H4 ⟨rfl, h4⟩
                  exact iteF h4
              · rintro H2 ⟨hD2, e2, T2⟩
                refine ⟨Nat.zero_le _, fun z hz => ?_⟩
                have e3 : Ext [] H2 (upd H2 z (.lst [])) := .new hz
                have T3 := T2.ext e3.toSame
                have eN3 := eNL.trans (e2.trans (ext_toN e3))
                refine ⟨.list [], .list [], .lst (.of (e3.at hD2 (by simp))) .nil, .lst (.of upd_same) .nil, by decide, by decide, _, rfl, ?_⟩
                have ev : (!PyData.eqv (.list []) (.list [])) = false := by decide
                rw [ev]
                refine iteF ?_
                have hb3 := hbc.extN eN3
                have hD3 := Dp.extN (e2.trans (ext_toN e3)) hDL
                generalize upd H2 z (.lst []) = H3 at *
                show tSeq _ _ _ _ _
                rcases b2 with rfl | ⟨hne, hw⟩
                · cases hD3
                  have nn : (!decide (V.non = V.non)) = false := by rw [decide_eq_true rfl]; rfl
                  refine ⟨_, rfl, rfl, _, rfl, ?_⟩
                  rw [nn]
                  refine iteF (iteF ?_)
                  refine ⟨_, rfl, rfl, _, rfl, ?_⟩
                  rw [nn]
                  exact iteF (iteF ⟨_, _, _, _, rfl, eN3, T3⟩)
                · have un : u ≠ .non := fun z => by
                    rw [z] at hD3
                    cases hD3
                    exact hne rfl
                  have nn : (!decide (u = V.non)) = true := by rw [decide_eq_false un]; rfl
                  refine ⟨_, rfl, rfl, _, rfl, ?_⟩
                  rw [nn]
                  refine iteT ?_
                  refine ⟨T3, fun H4 e4 T4 => ?_⟩
                  have hD4 := Dp.extN e4 hD3
                  refine ⟨_, rfl, _, rfl, .ref a, u, rfl, .inr ⟨b, dj, hb3.extN e4, ok, hD4, hw, fun dx H5 hdx hd5 e5 => ⟨"BadWindow ", _, dx, .int 0, .int 0, rfl, .inr (.inr (.inr (.inr (.inr (.inl ⟨rfl, rfl⟩))))), rfl, hd5, .int 0, (show_int ⟨by decide, by decide⟩).1, (show_int ⟨by decide, by decide⟩).2, ?_⟩⟩⟩
                  refine ⟨rfl, _, rfl, ?_⟩
                  rw [ne]
                  refine iteF ?_
                  refine ⟨_, rfl, rfl, _, rfl, ?_⟩
                  rw [nn]
                  refine iteT ?_
                  refine ⟨T4.ext e5.toSame, fun H6 e6 T6 => ?_⟩
                  have hD6 := Dp.extN e6 (Dp.ext0 e5 hD4)
                  refine ⟨_, rfl, u, dj, rfl, hD6, (fun z => by rw [hw] at z; cases z), fun _ dx H7 hdx hd7 e7 => ⟨"BadWindow ", _, dx, .int 0, .int 0, rfl, .inr (.inr (.inr (.inr (.inr (.inl ⟨rfl, rfl⟩))))), rfl, hd7, .int 0, (show_int ⟨by decide, by decide⟩).1, (show_int ⟨by decide, by decide⟩).2, ?_⟩⟩
                  refine ⟨rfl, _, rfl, ?_⟩
                  rw [ne]
                  exact iteF ⟨_, _, _, _, rfl, eN3.trans (e4.trans ((ext_toN e5).trans (e6.trans (ext_toN e7)))), T6.ext e7.toSame⟩
            · rintro σ Hd ⟨y4, y5, y6, y7, rfl, eNd, Td⟩
              exact q Hd Td
end
end Nv
set_option Elab.async false
set_option linter.all false
set_option maxRecDepth 100000
namespace Nv
open PySem PySem.Spec PyProof.Rows L2
section
variable {P : Program} {w : World} {K : PySem.W.Frag} {mg : Str → Option Value} {base : Heap}
/-! ### plain answers where refusals are heard -/
theorem liftX {n : Nat} {f : Addr} {fd : FuncData} {ps : List Str} {sp : Sp} (h : FnOk P w K mg base CX0 n f fd ps sp) : FnOk P w K mg base (L2.CX P w) n f fd ps sp :=
  ⟨h.len, fun A outer s H args us vs Q E a b c d z => codeAny_mono (h.run A outer s H args us vs Q E a b c d z) fun r s' y => by
    cases r with
    | error e => exact (show False from y).elim
    | ok fl => cases fl <;> exact y⟩
theorem okU_leads (T : Tx K mg) : FnOk P w K mg base (L2.CX P w) 6 T.leads.f T.leads.fd ["book", "state", "message", "many"] (sp_leads K) := liftX (ok_leads T)
theorem okU_special (T : Tx K mg) : FnOk P w K mg base (L2.CX P w) 6 T.special.f T.special.fd ["book", "window", "state"] (sp_special K) := liftX (ok_special T)
/-! ### the wide book -/
def wideB : Book := (List.range 8).map fun s => (List.range 5).map fun m => (95 + m, min (s + 1) 7)
theorem wide_form : FormB wideB := by
  have h : decide (1 ≤ wideB.length ∧ wideB.length ≤ 8 ∧ ∀ s ∈ wideB, s.length ≤ 5 ∧ (s.map (·.1)).Pairwise (· < ·) ∧ (∀ p ∈ s, p.1 ≤ 99) ∧ ∀ p ∈ s, p.2 < wideB.length) = true := by decide +kernel
  obtain ⟨h1, h2, h3⟩ := of_decide_eq_true h
  exact ⟨h1, h2, fun s hs => ⟨(h3 s hs).1, (h3 s hs).2.1, (h3 s hs).2.2.1, (h3 s hs).2.2.2⟩⟩
theorem wide_step : ∀ s < 7, (95, s + 1) ∈ mvs wideB s := by decide +kernel
theorem wide_ok : OkB wideB := by
  refine ⟨wide_form, fun s hs => ?_⟩
  have hs : s < 8 := hs
  induction s with
  | zero => exact .zero
  | succ n ih => exact .step (ih (by omega) (by omega)) (wide_step n (by omega))
theorem wide_rf : ringForksM wideB = [7] := by decide +kernel
theorem wide_last : (99, 7) ∈ mvs wideB 7 := by decide +kernel
/-! ### functions of the wide book alone -/
def sp_law_aloneW (K : PySem.W.Frag) (CN : Addr) : Sp := fun vs H Q E => ∃ (k : Nat) (v : V), vs = [.int k, v] ∧ BkV K H v wideB ∧ (k < 5 → ∀ x H', Ext [] H H' → Q x H') ∧ (5 ≤ k → OutsV H E CN (.int (7 : Nat)))
theorem okU_law_alone (T : Tx K mg) : FnOk P w K mg base (L2.CX P w) 8 T.law_alone.f T.law_alone.fd ["way", "book"] (sp_law_aloneW K T.x_NoNumber.C) := by
  refine T.law_alone.F.okX sc_law_alone (fun vs H Q E h => ?_) (fun cdv A outer s H vs Q E hr h => ?_)
  · obtain ⟨k, v, rfl, _⟩ := h; rfl
  · obtain ⟨k, v, rfl, hb, q, qx⟩ := h
    refine ⟨_, (pss_cons (ps_if (pt_cmpR op_eq (pv 0) pe_int (nomark _))
        (PSs.nox (pss_one (ps_ret (pe_call (ok_forks T) (hr.mono (by decide)) (by rfl) T.forks.g T.forks.F.kp T.forks.b .nil pass0 (pa_cons (pv 1) pa_nil)))))
        pss_nil)
      (pss_cons (ps_if (pt_cmpR op_eq (pv 0) pe_int (nomark _))
        (PSs.nox (pss_one (ps_ret (pe_call (ok_knots T) (hr.mono (by decide)) (by rfl) T.knots.g T.knots.F.kp T.knots.b .nil pass0 (pa_cons (pv 1) pa_nil)))))
        pss_nil)
      (pss_cons (ps_if (pt_cmpR op_eq (pv 0) pe_int (nomark _))
        (PSs.nox (pss_one (ps_ret (pe_call (ok_ring_forks T) (hr.mono (by decide)) (by rfl) T.ring_forks.g T.ring_forks.F.kp T.ring_forks.b .nil pass0 (pa_cons (pv 1) pa_nil)))))
        pss_nil)
      (pss_cons (ps_if (pt_cmpR op_eq (pv 0) pe_int (nomark _))
        (PSs.nox (pss_one (ps_ret (pe_call (ok_from_window T) (hr.mono (by decide)) (by rfl) T.from_window.g T.from_window.F.kp T.from_window.b .nil pass0 (pa_cons (pv 1) pa_nil)))))
        pss_nil)
      (pss_cons (ps_if (pt_cmpR op_eq (pv 0) pe_int (nomark _))
        (PSs.nox (pss_one (ps_ret (pe_call (ok_verdict T) (hr.mono (by decide)) (by rfl) T.verdict.g T.verdict.F.kp T.verdict.b .nil pass0 (pa_cons (pv 1) pa_nil)))))
        pss_nil)
      (pss_cons (ps_if (pt_cmpR op_eq (pv 0) pe_int (nomark _))
        (pss_one (ps_ret (pe_call (okU_cut_rows T) (hr.mono (by decide)) (by rfl) T.cut_rows.g T.cut_rows.F.kp T.cut_rows.b .nil (passes_call (takes_of rfl rfl rfl rfl) (fun _ _ _ _ h => h)) (pa_cons (pv 1) pa_nil))))
        pss_nil)
      (pss_one (ps_ret (pe_mid (pe_ifExp (pt_cmpR op_eq (pv 0) pe_int (nomark _)) (pe_call (okU_rays T) (hr.mono (by decide)) (by rfl) T.rays.g T.rays.F.kp T.rays.b .nil (passes_call (takes_of rfl rfl rfl rfl) (fun _ _ _ _ h => h)) (pa_cons (pv 1) pa_nil)) (pe_call (okU_first_fork T) (hr.mono (by decide)) (by rfl) T.first_fork.g T.first_fork.F.kp T.first_fork.b .nil (passes_call (takes_of rfl rfl rfl rfl) (fun _ _ _ _ h => h)) (pa_cons (pv 1) pa_nil)))))))))))), ?_⟩
    by_cases h5 : 5 ≤ k
    · have h : RefC K T.x_BadBook.C T.x_Stray.C T.x_NoNumber.C T.x_TooMany.C H E v := .inr (.inl ⟨wideB, 7, [], hb, wide_ok, wide_rf, qx h5⟩)
      have no : ∀ j : Int, j < 5 → decide (V.int (k : Nat) = V.int j) = false := fun j hj => decide_eq_false fun z => by
        injection z with z
        omega
      refine ⟨_, rfl, rfl, _, rfl, ?_⟩
      rw [no 0 (by decide)]
      refine iteF ⟨_, rfl, rfl, _, rfl, ?_⟩
      rw [no 1 (by decide)]
      refine iteF ⟨_, rfl, rfl, _, rfl, ?_⟩
      rw [no 2 (by decide)]
      refine iteF ⟨_, rfl, rfl, _, rfl, ?_⟩
      rw [no 3 (by decide)]
      refine iteF ⟨_, rfl, rfl, _, rfl, ?_⟩
      rw [no 4 (by decide)]
      refine iteF ⟨_, rfl, rfl, _, rfl, ite2 (fun _ => ⟨_, rfl, v, rfl, .inl h⟩) (fun _ => ?_)⟩
      exact ⟨fun _ _ => False, ⟨_, rfl, rfl, _, rfl, ite2 (fun _ => ⟨_, rfl, v, rfl, .inl h⟩) (fun _ => ⟨_, rfl, v, rfl, .inl h⟩)⟩, fun _ _ z => z.elim⟩
    · have q := q (by omega)
      have e : ∀ j : Nat, ¬ decide (V.int (k : Nat) = V.int (j : Nat)) = true → k ≠ j := fun j hj y => hj (decide_eq_true (by rw [y]))
      refine ⟨_, rfl, rfl, _, rfl, ite2 (fun _ => ⟨_, rfl, v, wideB, rfl, hb, wide_ok, fun t H' _ e => q _ H' e⟩) (fun z0 => ?_)⟩
      refine ⟨_, rfl, rfl, _, rfl, ite2 (fun _ => ⟨_, rfl, v, wideB, rfl, hb, wide_ok, fun t H' _ e => q _ H' e⟩) (fun z1 => ?_)⟩
      refine ⟨_, rfl, rfl, _, rfl, ite2 (fun _ => ⟨_, rfl, v, wideB, rfl, hb, wide_ok, fun t H' _ e => q _ H' e⟩) (fun z2 => ?_)⟩
      refine ⟨_, rfl, rfl, _, rfl, ite2 (fun _ => ⟨_, rfl, v, wideB, rfl, hb, wide_ok, fun o H' _ e => q _ H' e⟩) (fun z3 => ?_)⟩
      refine ⟨_, rfl, rfl, _, rfl, ite2 (fun _ => ⟨_, rfl, v, wideB, rfl, hb, wide_ok, fun t t1 H' _ _ e => q _ H' e⟩) (fun z4 => ?_)⟩
      have n0 := e 0 z0
      have n1 := e 1 z1
      have n2 := e 2 z2
      have n3 := e 3 z3
      have n4 := e 4 z4
      exact absurd rfl (show ¬ (k = k) from by omega)
end
end Nv
set_option Elab.async false
set_option linter.all false
set_option maxRecDepth 100000
namespace Nv
open PySem PySem.Spec PyProof.Rows L2
open LamX in
/-- the end of a law some of whose defs make lambdas: Ts, their code objects, each with its table -/
theorem endGTs {l : PySem.W.OpenLaw} {n k : Nat} {q : Program} {loose : List Str} {XP : (Str → Option Value) → Heap → Prop} {YP : World → Heap → Prop} {d : DefRec} {K : Params → PySem.W.Frag} {sp : PySem.W.Frag → List (Addr × Addr) → Sp} {x : Str} {Ts : List (Addr × Addr)}
    (hn : l.most = some n) (hn2 : n ≤ sizeLine) (hdf : d.params.defaults = []) (hr : Room k callerA) (hY : ∀ (w : World) (h : Heap), YP w h → (K w.params).In h) (hP : ∀ (w : World) (h : Heap), YP w h → ∀ p ∈ Ts, h.get? p.2 = some { cls := .none, data := .fields #[] })
    (F : ∀ (w : World) (mg : Str → Option Value) (fa : Addr) (h : Heap), (K w.params).In h → h.Ns mainGlobals mg → mg d.name = some (.ref fa) →
      (∀ p ∈ Ts, (K w.params).lookup p.2 = none ∧ PySem.W.codeHdIn (K w.params) p.1 p.2 = true) ∧
      ∃ fd : FuncData, (∀ (s : Shared) (u : Value), BindsTo s fd ⟨[u], []⟩ [(x, u)]) ∧ ∀ base : Heap, (K w.params).In base → base.Ns mainGlobals mg → (∀ p ∈ Ts, TabB base mg p.1 p.2) → FnG l.prog w (K w.params) mg base CX0 k fa fd [x] (sp (K w.params) Ts))
    (hsp : ∀ (K : PySem.W.Frag) (H : Hp) (a : Addr) (ns : List Int), ns.length ≤ n → SqL K H a (ns.map V.int) → (∀ p ∈ Ts, H p.2 = some (.tbl #[])) → sp K Ts [.ref a] H (fun v _ => v = .bl true) fun _ _ _ => False) :
    PySem.W.WalkO q loose XP YP l.row.toRowW d [] (fun f vs => PySem.call f vs) := by
  refine Att.attach_call hn hdf fun w s₀ s1 mg mb fa o pm cd doc a vs ns G Y ho hd hcd hmg hobj hints hlen hg => ?_
  have KX := hY w _ Y
  have hP := hP w _ Y
  obtain ⟨nC, fd, hb, hF⟩ := F w mg fa _ KX G.T.g hmg
  have small : ns.length ≤ sizeLine := Nat.le_trans hlen hn2
  obtain ⟨Z, only, seen, hok, dom⟩ := script_gone (P := l.prog) (w := w) KX hobj hints small
  have aP : ∀ p ∈ Ts, a ≠ p.2 := fun p hp z => by
    rw [z, hP p hp] at hobj
    cases hobj
  let isT : Addr → Prop := fun b => ∃ p ∈ Ts, b = p.2
  have isT0 : ∀ b, isT b → s1.heap.get? b = some { cls := .none, data := .fields #[] } := fun b ⟨p, hp, e⟩ => by rw [e]; exact hP p hp
  haveI : DecidablePred isT := fun b => Classical.propDecidable _
  have aT : ¬ isT a := fun ⟨p, hp, e⟩ => aP p hp e
  obtain ⟨H, eH⟩ : ∃ H : Hp, H = fun b => if isT b then some (.tbl #[]) else Z b := ⟨_, rfl⟩
  have HP : ∀ b, isT b → H b = some (.tbl #[]) := fun b hb => by rw [eH]; exact if_pos hb
  have Ho : ∀ b, ¬ isT b → H b = Z b := fun b hb => by rw [eH]; exact if_neg hb
  have seen : SqL (K w.params) H a (ns.map V.int) := by
    rcases seen with (z | ⟨ob, z⟩) | z
    · exact .inl (.inl (by rw [Ho a aT]; exact z))
    · exact .inl (.inr ⟨ob, by rw [Ho a aT]; exact z⟩)
    · exact .inr z
  have what : ∀ b u, H b = some u → (isT b ∧ u = .tbl #[]) ∨ (¬ isT b ∧ b = a ∧ (K w.params).lookup a = none ∧ ∃ ob ys, u = .frz ob (.lst ys) ∧ Z b = some u) := fun b u e => by
    by_cases hb : isT b
    · rw [HP b hb] at e
      exact .inl ⟨hb, (Option.some.inj e).symm⟩
    · rw [Ho b hb] at e
      obtain ⟨h1, h2⟩ := dom b u e
      rcases only b with z | ⟨ob, ys, z⟩
      · rw [z] at e; cases e
      · rw [z] at e
        exact .inr ⟨hb, h1, h2, ob, ys, (Option.some.inj e).symm, by rw [z]; exact e⟩
  have hok : HOk l.prog w H s1.heap := fun b u e => by
    rcases what b u e with ⟨hb, rfl⟩ | ⟨_, _, _, ob, ys, rfl, z⟩
    · exact isT0 b hb
    · exact hok b _ z
  have free : ∀ {b : Addr} {o : Obj}, s1.heap.get? b = some o → (∀ xs k, o.data ≠ .seq xs k) → o.data ≠ .fields #[] → H b = none := fun {b o} e n1 n2 => by
    cases q : H b with
    | none => rfl
    | some u =>
      rcases what b u q with ⟨hb, _⟩ | ⟨_, rfl, _⟩
      · rw [isT0 b hb] at e
        cases e
        exact (n2 rfl).elim
      · rw [hobj] at e
        cases e
        exact (n1 _ _ rfl).elim
  have dk : ∀ {b : Addr} {o : Obj} {es : Array DictEntry} {ep : Nat}, s1.heap.get? b = some o → o.data = .dict es ep → H b = none := fun {b o es ep} e dd => free e (by rw [dd]; intro _ _ z; cases z) (by rw [dd]; intro z; cases z)
  have ns : ∀ {b : Addr} {m : Str → Option Value}, s1.heap.Ns b m → (hidT s1.heap H).Ns b m := fun {b m} ⟨o, es, ep, e, dd, r⟩ => ⟨o, es, ep, hidT_get e (dk e dd), dd, r⟩
  have inK : (K w.params).In (hidT s1.heap H) := fun b o e => hidT_get (KX b o e) (by
    cases q : H b with
    | none => rfl
    | some u =>
      rcases what b u q with ⟨⟨p, hp, rfl⟩, _⟩ | ⟨_, rfl, z, _⟩
      · rw [(nC p hp).1] at e; cases e
      · rw [z] at e; cases e)
  have M : Mod (K w.params) mg (hidT s1.heap H) := ⟨inK, ns G.T.g, ⟨mb, ns G.T.b, G.T.builtins⟩, let ⟨mc, h1, h2⟩ := G.T.nolimit; ⟨mc, ns h1, h2⟩⟩
  have e0 : Env0 l.prog w (K w.params) mg (hidT s1.heap H) callerA [] s1 H := ⟨rfl, M, fun b o e => of_hidT e, Nat.le_of_eq (hidT_size _ _), trivial, fun b z => absurd (show b ∈ ([] : List Addr) from z) (by simp), hok, AllBare.of_eq hg⟩
  have gP : ∀ P, isT P → mainGlobals ≠ P := fun P hb z => by
    obtain ⟨o, es, ep, e, dd, _⟩ := G.T.g
    rw [z, isT0 P hb] at e
    cases e
    cases dd
  have bmP : ∀ P, isT P → (hidT s1.heap H).BuiltinsAt mg P := fun P hb => by
    obtain ⟨bm, ob, b1, b2, b3, b4, b5, b6⟩ := G.T.bmain
    refine ⟨bm, ob, b1, b2, fun z => ?_, fun z => ?_, hidT_get b3 (free b3 (by rw [b6]; intro _ _ z; cases z) (by rw [b6]; intro z; cases z)), b4, b5, b6⟩
    · obtain ⟨o, es, ep, e, dd, _⟩ := G.T.g
      rw [z, e] at b3
      cases b3
      rw [dd] at b6
      cases b6
    · rw [z, isT0 P hb] at b3
      cases b3
      cases b6
  have TB : ∀ p ∈ Ts, TabB (hidT s1.heap H) mg p.1 p.2 := fun p hp => ⟨PySem.W.codeHd_of_K inK (nC p hp).2, bmP _ ⟨p, hp, rfl⟩, gP _ ⟨p, hp, rfl⟩⟩
  refine codeAny_mono ((hF _ inK (ns G.T.g) TB).run callerA [] s1 H ⟨[.ref a], []⟩ [.ref a] [.ref a] _ _ rfl hr e0 (hb s1 (.ref a)) (.cons rfl .nil) (hsp _ H a _ hlen seen fun p hp => HP _ ⟨p, hp, rfl⟩)) fun r s' h => ?_
  rcases r with e | fl
  · exact (h : False).elim
  · cases fl with
    | next => exact (h : False).elim
    | brk => exact (h : False).elim
    | cont => exact (h : False).elim
    | ret u =>
      obtain ⟨v, H', os, bare, un, hok', rv, qv⟩ := h
      obtain rfl : v = .bl true := qv
      obtain rfl : u = Value.bool true := rv
      have mores : ∀ b, isT b → ∃ more : Array Value, s'.heap.get? b = some { cls := .none, data := .fields more } := fun b hb => by
        obtain ⟨more, z⟩ := un.tbls b #[] (HP b hb)
        exact ⟨_, hok' b _ z⟩
      have stays : ∀ b o, ¬ isT b → s1.heap.get? b = some o → s'.heap.get? b = some o := fun b o hb e => by
        cases z : H b with
        | none => exact un.keep b o e z (fun z => absurd (show b ∈ ([] : List Addr) from z) (by simp)) (by simp)
        | some u =>
          rcases what b u z with ⟨z2, _⟩ | ⟨_, _, _, ob, ys, rfl, _⟩
          · exact absurd z2 hb
          · obtain ⟨g1, _⟩ := hok b _ z
            obtain ⟨g2, _⟩ := hok' b _ (un.frzs b ob _ z)
            rw [e] at g1
            cases g1
            exact g2
      refine ⟨rfl, ⟨fun b o e => ?_, fun b o e => ?_⟩, os, bare⟩
      · by_cases hb : isT b
        · obtain ⟨more, ht⟩ := mores b hb
          obtain ⟨p, hp, rfl⟩ := hb
          have hPp := hP p hp
          rw [hPp] at e
          cases e
          exact .inr (.inl ⟨((PySem.W.codeHd_of_K KX (nC p hp).2).tab hPp).isCodeTable, rfl, #[], more, rfl, by rw [Array.empty_append]; exact ht⟩)
        · exact .inl (stays b o hb e)
      · by_cases hb : isT b
        · obtain ⟨more, ht⟩ := mores b hb
          exact ⟨_, ht⟩
        · exact ⟨o, stays b o hb e⟩
end Nv
set_option Elab.async false
set_option linter.all false
set_option maxRecDepth 100000
namespace Nv
open PySem PySem.Spec PyProof.Rows L2
section
variable {P : Program} {w : World} {K : PySem.W.Frag} {mg : Str → Option Value} {base : Heap}
/-! ### the law -/
def qLaw : Str := (Str.ofString "law" ++ Str.ofString ".<locals>.") ++ Str.ofString "<lambda>"
def spLaw (K : PySem.W.Frag) (Ts : List (Addr × Addr)) : Sp := fun vs H Q _ => ∃ (a : Addr) (ns : List Int), vs = [.ref a] ∧ SqL K H a (ns.map V.int) ∧ ns.length ≤ 63 ∧ (∀ p ∈ Ts, H p.2 = some (.tbl #[])) ∧ ∀ H', Q (.bl true) H'
theorem wide_take : ∀ i < 8, wideB.take (i + 1) = wideB.take i ++ [(List.range 5).map fun m => (95 + m, min (i + 1) 7)] := by decide +kernel
theorem sc_law : FnScope ["script", "pool", "book", "far", "wide", "state", "due", "message", "way"] ["script"] (defScope s_law) := ⟨rfl, rfl, rfl, by decide +kernel, rfl, by decide +kernel, by decide +kernel⟩
set_option pp.maxSteps 2000
set_option maxHeartbeats 4000000 in
theorem ok_law (T : Tx K mg) {cl Pt : Addr} {kV doc pm ct oc : Value} {an od : Option Addr} {osl : Array (Option Value)}
    (lk : K.lookup T.law.f = some ⟨oc, od, .func (PySem.W.fnOf "law" "law" (defArgs s_law) (defBody s_law) (defScope s_law) .none kV doc pm an (.ref cl) ct), osl⟩) (cd : PySem.W.codeIn K (.ref cl) "law" = true) (TB : LamX.TabB base mg cl Pt)
    {cl1 Pt1 : Addr} {kV1 doc1 pm1 ct1 oc1 : Value} {an1 od1 : Option Addr} {osl1 : Array (Option Value)}
    (lk1 : K.lookup T.law_books_refused.f = some ⟨oc1, od1, .func (PySem.W.fnOf "_law_books_refused" "_law_books_refused" (defArgs s_law_books_refused) (defBody s_law_books_refused) (defScope s_law_books_refused) .none kV1 doc1 pm1 an1 (.ref cl1) ct1), osl1⟩) (cd1 : PySem.W.codeIn K (.ref cl1) "_law_books_refused" = true) (TB1 : LamX.TabB base mg cl1 Pt1)
    {cl2 Pt2 : Addr} {kV2 doc2 pm2 ct2 oc2 : Value} {an2 od2 : Option Addr} {osl2 : Array (Option Value)}
    (lk2 : K.lookup T.law_more_refused.f = some ⟨oc2, od2, .func (PySem.W.fnOf "_law_more_refused" "_law_more_refused" (defArgs s_law_more_refused) (defBody s_law_more_refused) (defScope s_law_more_refused) .none kV2 doc2 pm2 an2 (.ref cl2) ct2), osl2⟩) (cd2 : PySem.W.codeIn K (.ref cl2) "_law_more_refused" = true) (TB2 : LamX.TabB base mg cl2 Pt2)
    (hD : Pt ≠ Pt1) (hD2 : Pt ≠ Pt2) (hD12 : Pt1 ≠ Pt2) :
    FnG P w K mg base CX0 12 T.law.f (PySem.W.fnOf "law" "law" (defArgs s_law) (defBody s_law) (defScope s_law) .none kV doc pm an (.ref cl) ct) ["script"] (spLaw K [(cl, Pt), (cl1, Pt1), (cl2, Pt2)]) := by
  obtain ⟨TT, eT⟩ : ∃ TT : List (Addr × Str), TT = [(Pt, qLaw), (Pt1, qBk), (Pt2, qMr)] := ⟨_, rfl⟩
  have hT : (Pt, qLaw) ∈ TT := by rw [eT]; simp
  have hT1 : (Pt1, qBk) ∈ TT := by rw [eT]; simp
  have hT2 : (Pt2, qMr) ∈ TT := by rw [eT]; simp
  have cs : ∀ p ∈ TT, p = (Pt, qLaw) ∨ p = (Pt1, qBk) ∨ p = (Pt2, qMr) := fun p hp => by
    rw [eT] at hp
    simpa using hp
  have hN : ∀ p ∈ TT, p.1 = Pt → p.2 = qLaw := fun p hp e => by
    rcases cs p hp with rfl | rfl | rfl
    · rfl
    · exact absurd e.symm hD
    · exact absurd e.symm hD2
  have hN1 : ∀ p ∈ TT, p.1 = Pt1 → p.2 = qBk := fun p hp e => by
    rcases cs p hp with rfl | rfl | rfl
    · exact absurd e hD
    · rfl
    · exact absurd e.symm hD12
  have hN2 : ∀ p ∈ TT, p.1 = Pt2 → p.2 = qMr := fun p hp e => by
    rcases cs p hp with rfl | rfl | rfl
    · exact absurd e hD2
    · exact absurd e hD12
    · rfl
  refine fnG_of lk cd sc_law (fun vs H Q E h => ?_) fun A outer s H vs Q E hG hr h => ?_
  · obtain ⟨a, ns, rfl, _⟩ := h; rfl
  · obtain ⟨sa, ns, rfl, hs, hn, hP, q⟩ := h
    refine ⟨_, PSs.nox (pss_cons (ps_set (i := 1) sc_law.nd rfl (.inl rfl) (pe_call (ok_law_pool T) (hr.mono (by decide)) (by rfl) T.law_pool.g T.law_pool.F.kp T.law_pool.b .nil pass0 (pa_cons (pv 0) pa_nil)))
      (pss_cons (ps_set (i := 2) sc_law.nd rfl (.inl rfl) (pe_call (ok_law_book_drawn T) (hr.mono (by decide)) (by rfl) T.law_book_drawn.g T.law_book_drawn.F.kp T.law_book_drawn.b .nil pass0 (pa_cons (pv 1) (pa_cons (pe_mid (pe_ifExp (pt_cmpR op_gt (pe_ix ix_list (pv 1) pe_int (fun _ _ => rfl)) pe_int (nomark _)) pe_int pe_int)) (pa_cons pe_int pa_nil)))))
      (pss_cons (ps_if (PW.pt (pw_or (pt_not (pt_val (pe_callG (ok_law_books_refused T lk1 cd1 TB1 hT1 hN1) hG (hr.mono (by decide)) (by rfl) T.law_books_refused.g T.law_books_refused.F.kp T.law_books_refused.b .nil pass0 (pa_cons (pv 1) (pa_cons (pv 2) pa_nil))))) (pw_or1 (pt_not (pt_val (pe_callG (ok_law_more_refused T lk2 cd2 TB2 hT2 hN2) hG (hr.mono (by decide)) (by rfl) T.law_more_refused.g T.law_more_refused.F.kp T.law_more_refused.b .nil pass0 (pa_cons (pv 1) (pa_cons (pv 2) pa_nil))))))))
        (pss_one (ps_ret pe_bl))
        pss_nil)
      (pss_cons (ps_setLc (i := 3) (own := [("message", 7)]) rfl sc_law.nd rfl rfl (sw_true rfl rfl rfl (by decide +kernel)) (pi_range2 (by rfl) T.n_range (pa_cons pe_int (pa_cons pe_int pa_nil))) (blkOk_by (own := [("message", 7)]) (N := ["script", "pool", "book", "far", "wide", "state", "due", "message", "way"]) (sc := defScope s_law) (by decide +kernel)) (fun _ _ _ _ _ => (pg_name (i := 7) sc_law.nd rfl (.inl rfl))) (fun _ _ _ _ _ => pts_nil) (fun _ _ _ _ _ => (pv 7)))
      (pss_cons (ps_set (i := 4) sc_law.nd rfl (.inr rfl) (pe_tup pa_nil))
      (pss_cons (ps_for PassesOwn.never rfl (pi_range1 (by rfl) T.n_range (pa_cons pe_int pa_nil)) (pg_name (i := 5) sc_law.nd rfl (.inr rfl))
        (pss_one (ps_set (i := 4) sc_law.nd rfl (.inr rfl) (pe_op op_catA (pv 4) (pe_tup (pa_cons (pe_callTy call_tupZ (by rfl) T.n_tuple (by decide +kernel) (pa_cons (pe_lc (own := [("message", 7)]) rfl sc_law.nd (pi_list (pv 3)) (blkOk_by (own := [("message", 7)]) (N := ["script", "pool", "book", "far", "wide", "state", "due", "message", "way"]) (sc := defScope s_law) (by decide +kernel)) (fun _ _ _ _ _ => (pg_name (i := 7) sc_law.nd rfl (.inl rfl))) (fun _ _ _ _ _ => pts_nil) (fun _ _ _ _ _ => (pe_tup (pa_cons (pv 7) (pa_cons (pe_callB (call_min2 rfl) (by rfl) T.n_min (by decide +kernel) (pa_cons (pe_op op_add (pv 5) pe_int) (pa_cons pe_int pa_nil))) pa_nil))))) pa_nil)) pa_nil))))))
      (pss_cons (ps_if (pt_cmpR op_ne (pe_heardM hG (k := 8) T rfl rfl (by rfl) TB hT hN rfl (hr.mono (by decide)) (LamX.lamS_by (sc := defScope s_law) (by decide +kernel)) rfl (fun _ _ _ _ _ => rfl) (fun _ _ _ _ _ _ _ hr => (pe_call (okU_leads T) (hr.mono (by decide)) (by rfl) T.leads.g T.leads.F.kp T.leads.b .nil (passes_call (takes_of rfl rfl rfl rfl) (fun _ _ _ _ h => h)) (pa_cons (pv 4) (pa_cons pe_int (pa_cons pe_int (pa_cons pe_int pa_nil))))))) pe_str (nomark _))
        (pss_one (ps_ret pe_bl))
        pss_nil)
      (pss_cons (ps_if (pt_cmpR op_ne (pe_heardM hG (k := 8) T rfl rfl (by rfl) TB hT hN rfl (hr.mono (by decide)) (LamX.lamS_by (sc := defScope s_law) (by decide +kernel)) rfl (fun _ _ _ _ _ => rfl) (fun _ _ _ _ _ _ _ hr => (pe_call (okU_special T) (hr.mono (by decide)) (by rfl) T.special.g T.special.F.kp T.special.b .nil (passes_call (takes_of rfl rfl rfl rfl) (fun _ _ _ _ h => h)) (pa_cons (pv 4) (pa_cons (pe_op op_pow pe_int pe_int) (pa_cons pe_int pa_nil)))))) pe_str (nomark _))
        (pss_one (ps_ret pe_bl))
        pss_nil)
      (pss_cons (ps_set (i := 6) sc_law.nd rfl (.inr rfl) pe_str)
      (pss_cons (ps_if (pt_cmpR (op_neD (hr.units)) (pe_lc (own := [("way", 8)]) rfl sc_law.nd (pi_list (pe_lst (pa_cons pe_int (pa_cons pe_int (pa_cons pe_int pa_nil))))) (blkOk_by (own := [("way", 8)]) (N := ["script", "pool", "book", "far", "wide", "state", "due", "message", "way"]) (sc := defScope s_law) (by decide +kernel)) (fun _ _ _ _ _ => (pg_name (i := 8) sc_law.nd rfl (.inr rfl))) (fun _ _ _ _ _ => pts_one (pt_mid (pt_cmpR op_ne (pe_heardM hG (k := 8) T rfl rfl (by rfl) TB hT hN rfl (hr.mono (by decide)) (LamX.lamS_by (by kernel_rfl)) rfl (fun _ _ _ _ _ => rfl) (fun _ _ _ _ _ _ _ hr => (pe_call (okU_law_alone T) (hr.mono (by decide)) (by rfl) T.law_alone.g T.law_alone.F.kp T.law_alone.b .nil (passes_call (takes_of rfl rfl rfl rfl) (fun _ _ _ _ h => h)) (pa_cons (pv 8) (pa_cons (pv 4) pa_nil))))) (pv 6) (nomark _)))) (fun _ _ _ _ _ => (pv 8))) (pe_lst pa_nil) (nomark _))
        (pss_one (ps_ret pe_bl))
        pss_nil)
      (pss_one (ps_ret (pe_cmpR (op_eqD (hr.units)) (pe_lc (own := [("way", 8)]) rfl sc_law.nd (pi_range1 (by rfl) T.n_range (pa_cons pe_int pa_nil)) (blkOk_by (own := [("way", 8)]) (N := ["script", "pool", "book", "far", "wide", "state", "due", "message", "way"]) (sc := defScope s_law) (by decide +kernel)) (fun _ _ _ _ _ => (pg_name (i := 8) sc_law.nd rfl (.inr rfl))) (fun _ _ _ _ _ => pts_one (pt_mid (pt_cmpR op_ne (pe_heardM hG (k := 8) T rfl rfl (by rfl) TB hT hN rfl (hr.mono (by decide)) (LamX.lamS_by (by kernel_rfl)) rfl (fun _ _ _ _ _ => rfl) (fun _ _ _ _ _ _ _ hr => (pe_call (okU_law_alone T) (hr.mono (by decide)) (by rfl) T.law_alone.g T.law_alone.F.kp T.law_alone.b .nil (passes_call (takes_of rfl rfl rfl rfl) (fun _ _ _ _ h => h)) (pa_cons (pv 8) (pa_cons (pv 4) pa_nil))))) pe_str (nomark _)))) (fun _ _ _ _ _ => (pv 8))) (pe_lst pa_nil) (nomark _)))))))))))))), ?_⟩
    have T0 : LamX.Tabs TT H := fun p hp => by
      rcases cs p hp with rfl | rfl | rfl
      · exact LamX.TabS.nil (hP (cl, Pt) (by simp))
      · exact LamX.TabS.nil (hP (cl1, Pt1) (by simp))
      · exact LamX.TabS.nil (hP (cl2, Pt2) (by simp))
    refine ⟨_, rfl, sa, ns, rfl, hs, hn, fun p l H1 hp hl P1 e1 => ?_⟩
    have P1' := P1
    obtain ⟨npl, x, y, ls0, hp1, hl1, x0, _⟩ := P1'
    have T1 : LamX.Tabs TT H1 := T0.ext e1.toSame
    refine ⟨_, rfl, fun v H' => H' = H1 ∧ ∃ S : Nat, v = .int S ∧ 1 ≤ S ∧ S ≤ 8, ⟨_, rfl, p, _, 0, _, rfl, rfl, .of hp1, atI_nat (j := 0) rfl, _, _, rfl, rfl, _, rfl, ite2 (fun _ => ⟨rfl, 8, rfl, by decide, by decide⟩) (fun _ => ⟨rfl, 5, rfl, by decide, by decide⟩)⟩, ?_⟩
    rintro v H2 ⟨rfl, S, rfl, S1, S8⟩
    refine ⟨p, l, S, 3, rfl, P1, S1, S8, by decide, fun b bv H3 ok _ _ hb P3 e3 => ?_⟩
    have T3 := e3.tabsL P1.only T1
    refine ⟨_, rfl, _, rfl, p, l, bv, b, rfl, P3, hb, ok, T3, fun H4 P4 hb4 T4 => ⟨true, rfl, iteF ⟨_, rfl, _, rfl, p, l, bv, b, rfl, P4, hb4, ok, T4, fun H5 T5 => ⟨true, rfl, iteF ?_⟩⟩⟩⟩
    clear P4 hb4 T4 P3 hb T3 e3 ok P1 T1 T0 hs hP hl1 hp1 x0 e1
    show tSeq _ _ _ _ _
    refine ⟨95, 100, rfl, ⟨by decide, by decide, by decide, by decide⟩, fun D hD => ?_⟩
    refine lc_range (lo := 95) (n := 5) (fun i H' => H' D = some (.lst ((List.range i).map fun m => nV (95 + m))) ∧ LamX.Tabs TT H') ⟨upd_same, T5.ext (Ext.new (L := []) hD).toSame⟩ ?_ ?_
    · rintro i H' hi ⟨hX, TX⟩
      refine ⟨rfl, yes ?_⟩
      have eD : Ext [D] H' (upd H' D (.lst ((List.range i).map (fun m => nV (95 + m)) ++ [V.int (95 + (i : Nat))]))) := .wr (by simp)
      refine ⟨_, rfl, _, hX, by rw [List.length_map, List.length_range]; exact small1000 (by omega), ?_, eD.tabsL (fun x hx o ho => by rw [List.mem_singleton.mp hx, hX] at ho; cases ho; exact ⟨_, rfl⟩) TX⟩
      rw [upd_same, List.range_succ, List.map_append]
      rfl
    rintro H6 ⟨hX, T6⟩
    refine ⟨Nat.zero_le _, fun w0 hw0 => ?_⟩
    have T7 := T6.ext (Ext.new (L := []) (o := .tup []) hw0).toSame
    have hX7 : upd H6 w0 (.tup []) D = _ := (Ext.new (L := []) (o := .tup []) hw0).at hX (by simp)
    have hw7 : upd H6 w0 (.tup []) w0 = some (.tup []) := upd_same
    refine ⟨_, rfl, by decide, by decide, for_range (lo := 0) (n := 8) (fun i σ H' => ∃ (y5 : Option V) (wa : Addr) (vs : List V), σ = [some (.ref sa), some (.ref p), some bv, some (.ref D), some (.ref wa), y5, none, none, none] ∧ H' D = some (.lst ((List.range 5).map fun m => nV (95 + m))) ∧ LamX.Tabs TT H' ∧ SqT K H' wa vs ∧ Paired (StV K H') vs (wideB.take i)) ⟨_, w0, [], rfl, hX7, T7, .of hw7, .nil⟩ ?_ ?_⟩
    · rintro i σ H8 hi ⟨y5, wa, vs, rfl, hX8, T8, hw8, hvs⟩
      have em : V.int (if (7 : Int) < 0 + (i : Int) + 1 then 7 else 0 + i + 1) = nV (min (i + 1) 7) := by
        show _ = V.int ((min (i + 1) 7 : Nat) : Int)
        congr 1
        split <;> omega
      refine ⟨_, rfl, _, rfl, D, rfl, ⟨_, .of hX8⟩, fun D3 hD3 => ?_⟩
      refine lc_list (K := K) (a := D) (xs := (List.range 5).map fun m => nV (95 + m)) (fun j H' => ∃ ys : List Addr, H' D3 = some (.lst (ys.map V.ref)) ∧ Paired (MvV K H') ys (((List.range 5).map fun m => (95 + m, min (i + 1) 7)).take j) ∧ Ext [] H8 H') ⟨[], upd_same, by simp; exact .nil, .new hD3⟩ (fun j H' _ ⟨_, _, _, e⟩ => .of (e.at hX8 (by simp))) ?_ ?_
      · rintro j v H' hv ⟨ys, hY, hp, e⟩
        have hj : j < 5 := by
          have := (List.getElem?_eq_some_iff.mp hv).1
          simpa using this
        obtain rfl : v = nV (95 + j) := by
          rw [List.getElem?_map, List.getElem?_range hj] at hv
          cases hv
          rfl
        refine ⟨rfl, yes ?_⟩
        refine ⟨_, rfl, _, rfl, _, _, rfl, rfl, _, _, rfl, (by show 2 ≤ sizeLine; decide), fun t ht => ?_⟩
        have e2 : Ext [] H' (upd H' t (.tup [nV (95 + j), V.int (if (7 : Int) < 0 + (i : Int) + 1 then 7 else 0 + i + 1)])) := .new ht
        have hm : MvV K (upd H' t (.tup [nV (95 + j), V.int (if (7 : Int) < 0 + (i : Int) + 1 then 7 else 0 + i + 1)])) t (95 + j, min (i + 1) 7) := by
          rw [em]
          exact .of upd_same
        have hY2 := e2.at hY (by simp)
        have hyl : ys.length ≤ 5 := by rw [Paired.len hp, List.length_take, List.length_map, List.length_range]; exact Nat.min_le_right ..
        have wD : Ext [D3] (upd H' t (.tup [nV (95 + j), V.int (if (7 : Int) < 0 + (i : Int) + 1 then 7 else 0 + i + 1)])) (upd (upd H' t (.tup [nV (95 + j), V.int (if (7 : Int) < 0 + (i : Int) + 1 then 7 else 0 + i + 1)])) D3 (.lst (ys.map V.ref ++ [.ref t]))) := .wr (by simp)
        refine ⟨_, hY2, by rw [List.length_map]; exact small1000 (by omega), ys ++ [t], by rw [upd_same, List.map_append]; rfl, ?_, (e.trans e2).put hD3⟩
        rw [List.take_add_one, List.getElem?_map, List.getElem?_range hj]
        have hm2 : MvV K (upd (upd H' t (.tup [nV (95 + j), V.int (if (7 : Int) < 0 + (i : Int) + 1 then 7 else 0 + i + 1)])) D3 (.lst (ys.map V.ref ++ [.ref t]))) t (95 + j, min (i + 1) 7) := wD.tup (one_lst hY2) hm
        have hp2 : Paired (MvV K (upd (upd H' t (.tup [nV (95 + j), V.int (if (7 : Int) < 0 + (i : Int) + 1 then 7 else 0 + i + 1)])) D3 (.lst (ys.map V.ref ++ [.ref t])))) ys (((List.range 5).map fun m => (95 + m, min (i + 1) 7)).take j) := Paired.imp hp fun v m z => (show SqT K (upd (upd H' t (.tup [nV (95 + j), V.int (if (7 : Int) < 0 + (i : Int) + 1 then 7 else 0 + i + 1)])) D3 (.lst (ys.map V.ref ++ [.ref t]))) v [nV m.1, nV m.2] from wD.tup (one_lst hY2) (e2.tup Lsts.nil z))
        exact Paired.snoc hm2 hp2
      · rintro H' ⟨ys, hY, hp, e⟩
        have hp : Paired (MvV K H') ys ((List.range 5).map fun m => (95 + m, min (i + 1) 7)) := hp
        refine ⟨D3, _, rfl, .of hY, fun t H2 ht hH => ?_⟩
        obtain ⟨o, od', rfl⟩ := hH
        have e2 : Ext [] H' (upd H' t (.frz o (.tup (ys.map V.ref)))) := .new ht
        have hs : StV K (upd H' t (.frz o (.tup (ys.map V.ref)))) (.ref t) ((List.range 5).map fun m => (95 + m, min (i + 1) 7)) := ⟨t, ys, rfl, ⟨o, upd_same, od'⟩, Paired.imp hp fun _ _ z => e2.tup Lsts.nil z⟩
        generalize upd H' t (.frz o (.tup (ys.map V.ref))) = H2 at *
        refine ⟨(by show 1 ≤ sizeLine; decide), fun t2 ht2 => ?_⟩
        have e3 : Ext [] H2 (upd H2 t2 (.tup [.ref t])) := .new ht2
        have e13 := (e.trans e2).trans e3
        have vl : vs.length ≤ 8 := by rw [Paired.len hvs, List.length_take]; exact Nat.le_trans (Nat.min_le_right ..) (by decide)
        refine catA (e13.tup Lsts.nil hw8) (.of upd_same) (by show _ + 1 ≤ 1000; omega) fun t3 H3 hs3 e4 => ?_
        have e14 := e13.trans e4
        refine ⟨_, t3, _, rfl, e14.at hX8 (by simp), T8.ext e14.toSame, hs3, ?_⟩
        rw [wide_take i hi]
        exact Paired.snoc (hs.ext0 (e3.trans e4)) (Paired.imp hvs fun _ _ z => z.ext0 e14)
    · rintro σ H8 ⟨y5, wa, vs, rfl, hX8, T8, hw8, hvs⟩
      have hb8 : BkV K H8 (.ref wa) wideB := ⟨wa, vs, rfl, hw8, hvs⟩
      clear hX8 hw8 hvs hw7 hX7 T7 T6 hX hw0 hD
      have nn : (!decide (V.str "none" = V.str "none")) = false := str_ne _
      refine ⟨T8, fun H9 e9 T9 => ?_⟩
      have hb9 := hb8.extN e9
      refine ⟨_, rfl, .ref wa, wideB, 7, 0, (99, 7), rfl, hb9, wide_ok, by decide, wide_last, fun t Ha _ ea => ?_⟩
      refine ⟨rfl, _, rfl, ?_⟩
      rw [nn]
      refine iteF ?_
      refine ⟨T9.ext ea.toSame, fun Hb eb Tb => ?_⟩
      have hbb := (hb9.ext0 ea).extN eb
      refine ⟨_, rfl, 10, 30, rfl, rfl, ⟨by decide, by decide, by decide⟩, .ref wa, wideB, 10 ^ 30, 7, rfl, hbb, wide_ok, by decide, by decide, fun res fin Hc _ ec => ?_⟩
      refine ⟨rfl, _, rfl, ?_⟩
      rw [nn]
      refine iteF ?_
      have hbc := hbb.ext0 ec
      have Tc := Tb.ext ec.toSame
      clear hb8 hb9 hbb T8 T9 Tb e9 ea eb ec
      -- refused
      refine ⟨(by show 3 ≤ sizeLine; decide), fun Lw hLw => ⟨Lw, rfl, ⟨_, .of upd_same⟩, fun D2 hD2 => ?_⟩⟩
      have eL : Ext [] Hc (upd (upd Hc Lw (.lst [.int 5, .int 6, .int 7])) D2 (.lst [])) := (Ext.new (L := []) hLw).put2 hD2
      have LD : Lw ≠ D2 := fun z => by rw [← z, upd_same] at hD2; cases hD2
      have hLs : upd (upd Hc Lw (.lst [.int 5, .int 6, .int 7])) D2 (.lst []) Lw = some (.lst [.int 5, .int 6, .int 7]) := by rw [upd_ne LD, upd_same]
      have hDs : upd (upd Hc Lw (.lst [.int 5, .int 6, .int 7])) D2 (.lst []) D2 = some (.lst []) := upd_same
      have TL := Tc.ext eL.toSame
      have hbL := hbc.ext0 eL
      refine lc_list (K := K) (a := Lw) (xs := [.int 5, .int 6, .int 7]) (fun j H' => H' D2 = some (.lst []) ∧ LamX.ExtN (upd (upd Hc Lw (.lst [.int 5, .int 6, .int 7])) D2 (.lst [])) H' ∧ LamX.Tabs TT H') ⟨hDs, .refl _, TL⟩ (fun j H' _ ⟨_, e, _⟩ => .of (e _ _ hLs (fun ps z => nomatch z))) ?_ ?_
      · rintro j u H2 hu ⟨hD3, e2, T2⟩
        obtain ⟨k, rfl, hk⟩ : ∃ k : Nat, u = .int k ∧ 5 ≤ k := by
          have := List.mem_of_getElem? hu
          simp only [List.mem_cons, List.not_mem_nil, or_false] at this
          rcases this with rfl | rfl | rfl
          · exact ⟨5, rfl, by decide⟩
          · exact ⟨6, rfl, by decide⟩
          · exact ⟨7, rfl, by decide⟩
        refine ⟨rfl, fun x H' => x = false ∧ H' D2 = some (.lst []) ∧ LamX.ExtN (upd (upd Hc Lw (.lst [.int 5, .int 6, .int 7])) D2 (.lst [])) H' ∧ LamX.Tabs TT H', ?_, ?_⟩
        · refine ⟨T2, fun H3 e3 T3 => ?_⟩
          have e23 := e2.trans e3
          refine ⟨_, rfl, _, rfl, k, .ref wa, rfl, hbL.extN e23, fun z => absurd z (by omega), fun _ dx H4 hdx hd4 e4 => ⟨"NoNumber ", _, dx, .int (7 : Nat), .int (7 : Nat), rfl, .inr (.inr (.inr (.inr (.inr (.inr (.inl ⟨rfl, rfl⟩)))))), rfl, hd4, .int _, (show_int ⟨by decide, by decide⟩).1, (show_int ⟨by decide, by decide⟩).2, ?_⟩⟩
          refine ⟨_, rfl, rfl, _, rfl, ?_⟩
          have ne : (!decide (V.str (Str.ofString "NoNumber " ++ (PyData.int (7 : Nat)).shown) = V.str (Str.ofString "NoNumber 7"))) = false := by
            have : (Str.ofString "NoNumber " ++ (PyData.int (7 : Nat)).shown) = Str.ofString "NoNumber 7" := by decide +kernel
            rw [this]
            exact str_ne _
          exact ⟨ne, e4.at (e3 _ _ hD3 (fun ps z => nomatch z)) (by simp), e23.trans (ext_toN e4), T3.ext e4.toSame⟩
        · rintro x H4 ⟨rfl, h4⟩
          exact iteF h4
      · rintro H2 ⟨hD3, e2, T2⟩
        refine ⟨Nat.zero_le _, fun z hz => ?_⟩
        have e3 : Ext [] H2 (upd H2 z (.lst [])) := .new hz
        have T3 := T2.ext e3.toSame
        have hb3 := hbL.extN (e2.trans (ext_toN e3))
        refine ⟨.list [], .list [], .lst (.of (e3.at hD3 (by simp))) .nil, .lst (.of upd_same) .nil, by decide, by decide, _, rfl, ?_⟩
        have ev : (!PyData.eqv (.list []) (.list [])) = false := by decide
        rw [ev]
        refine iteF ?_
        -- plain
        generalize upd H2 z (.lst []) = H3 at *
        refine ⟨5, rfl, by decide, by decide, fun D4 hD4 => ?_⟩
        have e4 : Ext [] H3 (upd H3 D4 (.lst [])) := .new hD4
        have T4 := T3.ext e4.toSame
        have hb4 := hb3.ext0 e4
        refine lc_range (lo := 0) (n := 5) (fun i H' => H' D4 = some (.lst []) ∧ LamX.ExtN (upd H3 D4 (.lst [])) H' ∧ LamX.Tabs TT H') ⟨upd_same, .refl _, T4⟩ ?_ ?_
        · rintro m H5 hm ⟨hD5, e5, T5⟩
          refine ⟨rfl, fun x H' => x = false ∧ H' D4 = some (.lst []) ∧ LamX.ExtN (upd H3 D4 (.lst [])) H' ∧ LamX.Tabs TT H', ?_, ?_⟩
          · refine ⟨T5, fun H6 e6 T6 => ?_⟩
            have e56 := e5.trans e6
            refine ⟨_, rfl, _, rfl, m, .ref wa, by simp, hb4.extN e56, fun _ x H7 e7 => ?_, fun z => absurd z (by omega)⟩
            refine ⟨rfl, _, rfl, nn, ?_⟩
            exact ⟨e7.at (e6 _ _ hD5 (fun ps z => nomatch z)) (by simp), e56.trans (ext_toN e7), T6.ext e7.toSame⟩
          · rintro x H4 ⟨rfl, h4⟩
            exact iteF h4
        · rintro H5 ⟨hD5, e5, T5⟩
          refine ⟨Nat.zero_le _, fun z hz => ?_⟩
          have e6 : Ext [] H5 (upd H5 z (.lst [])) := .new hz
          refine ⟨.list [], .list [], .lst (.of (e6.at hD5 (by simp))) .nil, .lst (.of upd_same) .nil, by decide, by decide, ?_⟩
          have ev : PyData.eqv (.list []) (.list []) = true := by decide
          rw [ev]
          exact q _
end
end Nv
namespace Nv
open PySem PySem.Spec PyProof.Rows L2
section
variable {K : PySem.W.Frag} {mg : Str → Option Value} {h : Heap}
def mkDef {name : Str} {st : Stmt} {ps : List Str} {f : Addr} {oc : Value} {od an : Option Addr} {osl : Array (Option Value)} {kV doc pm cdv ct : Value} (X : K.In h) (G : h.Ns mainGlobals mg)
    (a : PySem.W.nsIn K mainGlobals name = some (some (.ref f))) (l : K.lookup f = some ⟨oc, od, .func (PySem.W.fnOf name name (defArgs st) (defBody st) (defScope st) .none kV doc pm an cdv ct), osl⟩)
    (c : PySem.W.codeIn K cdv name = true) (k : PySem.W.keepIn K (.ref f) = true)
    (b : ∀ (kV doc pm : Value) (an : Option Addr) (cdv ct : Value) (us : List Value), us.length = ps.length → bindArgs (PySem.W.fnOf name name (defArgs st) (defBody st) (defScope st) .none kV doc pm an cdv ct) ⟨us, []⟩ = pure (ps.zip us)) : DefAt K mg name st ps :=
  ⟨f, _, fun_mk l c k, PySem.W.mg_of X G a, b kV doc pm an cdv ct⟩
def mkDefD {name : Str} {st : Stmt} {ps : List Str} {v : V} {u : Value} (r : RelV v u) {f dT : Addr} {oc doc1 : Value} {od an dod : Option Addr} {osl dsl : Array (Option Value)} {dn : Nat} {kV doc pm cdv ct : Value} (X : K.In h) (G : h.Ns mainGlobals mg)
    (a : PySem.W.nsIn K mainGlobals name = some (some (.ref f))) (l : K.lookup f = some ⟨oc, od, .func (PySem.W.fnOf name name (defArgs st) (defBody st) (defScope st) (.ref dT) kV doc pm an cdv ct), osl⟩)
    (c : PySem.W.codeIn K cdv name = true) (k : PySem.W.keepIn K (.ref f) = true) (d : K.lookup dT = some ⟨doc1, dod, .seq #[u] dn, dsl⟩) (n : Nat) (hn : n + 1 = ps.length)
    (b : ∀ (T : Addr) (kV doc pm : Value) (an : Option Addr) (cdv ct : Value) (us its : List Value), us.length = n → its.length = 1 →
      ∃ k, bindArgs (PySem.W.fnOf name name (defArgs st) (defBody st) (defScope st) (.ref T) kV doc pm an cdv ct) ⟨us, []⟩ = seqItems? (.ref T) >>= k ∧ k (some its.toArray) = pure (ps.zip (us ++ its.drop 0)))
    (b1 : ∀ (T : Addr) (kV doc pm : Value) (an : Option Addr) (cdv ct : Value) (us its : List Value), us.length = n + 1 → its.length = 1 →
      ∃ k, bindArgs (PySem.W.fnOf name name (defArgs st) (defBody st) (defScope st) (.ref T) kV doc pm an cdv ct) ⟨us, []⟩ = seqItems? (.ref T) >>= k ∧ k (some its.toArray) = pure (ps.zip (us ++ its.drop 1))) : DefAtD K mg name st ps [v] := by
  have F : FunD K name name (defArgs st) (defBody st) (defScope st) [v] [] f _ := ⟨⟨oc, od, .ref dT, kV, doc, pm, an, cdv, ct, osl, rfl, l, c, .inr ⟨by nofun, dT, _, [u], dn, rfl, d, rfl, .cons r .nil⟩, .inl rfl⟩, k⟩
  refine ⟨f, _, ⟨F⟩, PySem.W.mg_of X G a, ?_, F.binds1 n 0 (by nofun) (by simpa using hn) b⟩
  obtain ⟨ds, hv, hb⟩ := F.binds1 (n + 1) 1 (by nofun) (by simpa using hn) b1
  cases hv
  exact hb
end

set_option maxHeartbeats 0 in
theorem all_mk {l : PySem.W.OpenLaw} {w : World} {K : PySem.W.Frag} {h : Heap} {mg : Str → Option Value} {fa : Addr} (X : K.In h) (G : h.Ns mainGlobals mg) (hfa : mg "law" = some (.ref fa))
    {f0 : Addr} {oc0 kV0 dc0 pm0 cd0 ct0 : Value} {od0 an0 : Option Addr} {sl0 : Array (Option Value)}
    {f1 : Addr} {oc1 kV1 dc1 pm1 cd1 ct1 : Value} {od1 an1 : Option Addr} {sl1 : Array (Option Value)}
    {f2 : Addr} {oc2 kV2 dc2 pm2 cd2 ct2 : Value} {od2 an2 : Option Addr} {sl2 : Array (Option Value)}
    {f3 : Addr} {oc3 kV3 dc3 pm3 cd3 ct3 : Value} {od3 an3 : Option Addr} {sl3 : Array (Option Value)} {zT3 : Addr} {zc3 : Value} {zo3 : Option Addr} {zs3 : Array (Option Value)} {zn3 : Nat} {zk3 : Tok}
    {f4 : Addr} {oc4 kV4 dc4 pm4 cd4 ct4 : Value} {od4 an4 : Option Addr} {sl4 : Array (Option Value)}
    {f5 : Addr} {oc5 kV5 dc5 pm5 cd5 ct5 : Value} {od5 an5 : Option Addr} {sl5 : Array (Option Value)}
    {f6 : Addr} {oc6 kV6 dc6 pm6 cd6 ct6 : Value} {od6 an6 : Option Addr} {sl6 : Array (Option Value)}
    {f7 : Addr} {oc7 kV7 dc7 pm7 cd7 ct7 : Value} {od7 an7 : Option Addr} {sl7 : Array (Option Value)}
    {f8 : Addr} {oc8 kV8 dc8 pm8 cd8 ct8 : Value} {od8 an8 : Option Addr} {sl8 : Array (Option Value)}
    {f9 : Addr} {oc9 kV9 dc9 pm9 cd9 ct9 : Value} {od9 an9 : Option Addr} {sl9 : Array (Option Value)}
    {f10 : Addr} {oc10 kV10 dc10 pm10 cd10 ct10 : Value} {od10 an10 : Option Addr} {sl10 : Array (Option Value)}
    {f11 : Addr} {oc11 kV11 dc11 pm11 cd11 ct11 : Value} {od11 an11 : Option Addr} {sl11 : Array (Option Value)}
    {f12 : Addr} {oc12 kV12 dc12 pm12 cd12 ct12 : Value} {od12 an12 : Option Addr} {sl12 : Array (Option Value)}
    {f13 : Addr} {oc13 kV13 dc13 pm13 cd13 ct13 : Value} {od13 an13 : Option Addr} {sl13 : Array (Option Value)}
    {f14 : Addr} {oc14 kV14 dc14 pm14 cd14 ct14 : Value} {od14 an14 : Option Addr} {sl14 : Array (Option Value)}
    {f15 : Addr} {oc15 kV15 dc15 pm15 cd15 ct15 : Value} {od15 an15 : Option Addr} {sl15 : Array (Option Value)}
    {f16 : Addr} {oc16 kV16 dc16 pm16 cd16 ct16 : Value} {od16 an16 : Option Addr} {sl16 : Array (Option Value)}
    {f17 : Addr} {oc17 kV17 dc17 pm17 cd17 ct17 : Value} {od17 an17 : Option Addr} {sl17 : Array (Option Value)}
    {f18 : Addr} {oc18 kV18 dc18 pm18 cd18 ct18 : Value} {od18 an18 : Option Addr} {sl18 : Array (Option Value)}
    {f19 : Addr} {oc19 kV19 dc19 pm19 cd19 ct19 : Value} {od19 an19 : Option Addr} {sl19 : Array (Option Value)}
    {f20 : Addr} {oc20 kV20 dc20 pm20 cd20 ct20 : Value} {od20 an20 : Option Addr} {sl20 : Array (Option Value)}
    {f21 : Addr} {oc21 kV21 dc21 pm21 cd21 ct21 : Value} {od21 an21 : Option Addr} {sl21 : Array (Option Value)}
    {f22 : Addr} {oc22 kV22 dc22 pm22 cd22 ct22 : Value} {od22 an22 : Option Addr} {sl22 : Array (Option Value)}
    {f23 : Addr} {oc23 kV23 dc23 pm23 cd23 ct23 : Value} {od23 an23 : Option Addr} {sl23 : Array (Option Value)}
    {f24 : Addr} {oc24 kV24 dc24 pm24 cd24 ct24 : Value} {od24 an24 : Option Addr} {sl24 : Array (Option Value)}
    {f25 : Addr} {oc25 kV25 dc25 pm25 cd25 ct25 : Value} {od25 an25 : Option Addr} {sl25 : Array (Option Value)}
    {f26 : Addr} {oc26 kV26 dc26 pm26 cd26 ct26 : Value} {od26 an26 : Option Addr} {sl26 : Array (Option Value)}
    {f27 : Addr} {oc27 kV27 dc27 pm27 cd27 ct27 : Value} {od27 an27 : Option Addr} {sl27 : Array (Option Value)}
    {f28 : Addr} {oc28 kV28 dc28 pm28 cd28 ct28 : Value} {od28 an28 : Option Addr} {sl28 : Array (Option Value)}
    {f29 : Addr} {oc29 kV29 dc29 pm29 cd29 ct29 : Value} {od29 an29 : Option Addr} {sl29 : Array (Option Value)}
    {f30 : Addr} {oc30 kV30 dc30 pm30 cd30 ct30 : Value} {od30 an30 : Option Addr} {sl30 : Array (Option Value)}
    {f31 : Addr} {oc31 kV31 dc31 pm31 cd31 ct31 : Value} {od31 an31 : Option Addr} {sl31 : Array (Option Value)}
    {f32 : Addr} {oc32 kV32 dc32 pm32 cd32 ct32 : Value} {od32 an32 : Option Addr} {sl32 : Array (Option Value)}
    {f33 : Addr} {oc33 kV33 dc33 pm33 cd33 ct33 : Value} {od33 an33 : Option Addr} {sl33 : Array (Option Value)}
    {f34 : Addr} {oc34 kV34 dc34 pm34 cd34 ct34 : Value} {od34 an34 : Option Addr} {sl34 : Array (Option Value)}
    {f35 : Addr} {oc35 kV35 dc35 pm35 cd35 ct35 : Value} {od35 an35 : Option Addr} {sl35 : Array (Option Value)}
    {f36 : Addr} {oc36 kV36 dc36 pm36 cd36 ct36 : Value} {od36 an36 : Option Addr} {sl36 : Array (Option Value)}
    {f37 : Addr} {oc37 kV37 dc37 pm37 cd37 ct37 : Value} {od37 an37 : Option Addr} {sl37 : Array (Option Value)}
    {f38 : Addr} {oc38 kV38 dc38 pm38 cd38 ct38 : Value} {od38 an38 : Option Addr} {sl38 : Array (Option Value)}
    {f39 : Addr} {oc39 kV39 dc39 pm39 cd39 ct39 : Value} {od39 an39 : Option Addr} {sl39 : Array (Option Value)}
    {f40 : Addr} {oc40 kV40 dc40 pm40 cd40 ct40 : Value} {od40 an40 : Option Addr} {sl40 : Array (Option Value)}
    {f41 : Addr} {oc41 kV41 dc41 pm41 cd41 ct41 : Value} {od41 an41 : Option Addr} {sl41 : Array (Option Value)}
    {f42 : Addr} {oc42 kV42 dc42 pm42 cd42 ct42 : Value} {od42 an42 : Option Addr} {sl42 : Array (Option Value)}
    {f43 : Addr} {oc43 kV43 dc43 pm43 cd43 ct43 : Value} {od43 an43 : Option Addr} {sl43 : Array (Option Value)}
    {f44 : Addr} {oc44 kV44 dc44 pm44 cd44 ct44 : Value} {od44 an44 : Option Addr} {sl44 : Array (Option Value)}
    {f45 : Addr} {oc45 kV45 dc45 pm45 cd45 ct45 : Value} {od45 an45 : Option Addr} {sl45 : Array (Option Value)}
    {f46 : Addr} {oc46 kV46 dc46 pm46 cd46 ct46 : Value} {od46 an46 : Option Addr} {sl46 : Array (Option Value)}
    {f47 : Addr} {oc47 kV47 dc47 pm47 cd47 ct47 : Value} {od47 an47 : Option Addr} {sl47 : Array (Option Value)}
    {f48 : Addr} {oc48 kV48 dc48 pm48 cd48 ct48 : Value} {od48 an48 : Option Addr} {sl48 : Array (Option Value)}
    {f49 : Addr} {oc49 kV49 dc49 pm49 cd49 ct49 : Value} {od49 an49 : Option Addr} {sl49 : Array (Option Value)}
    {f50 : Addr} {oc50 kV50 dc50 pm50 cd50 ct50 : Value} {od50 an50 : Option Addr} {sl50 : Array (Option Value)}
    {f51 : Addr} {oc51 kV51 dc51 pm51 ct51 : Value} {od51 an51 : Option Addr} {sl51 : Array (Option Value)} {cL1 pL1 : Addr} {vc1 : Value} {vd1 : Option Addr} {vs1 : Array Value} {vl1 : Array (Option Value)}
    {f52 : Addr} {oc52 kV52 dc52 pm52 ct52 : Value} {od52 an52 : Option Addr} {sl52 : Array (Option Value)} {cL2 pL2 : Addr} {vc2 : Value} {vd2 : Option Addr} {vs2 : Array Value} {vl2 : Array (Option Value)}
    {f53 : Addr} {oc53 kV53 dc53 pm53 ct53 : Value} {od53 an53 : Option Addr} {sl53 : Array (Option Value)} {cL0 pL0 : Addr} {vc0 : Value} {vd0 : Option Addr} {vs0 : Array Value} {vl0 : Array (Option Value)}
    {fI : Addr} {ocI kVI dcI pmI cdI ctI : Value} {odI anI : Option Addr} {slI : Array (Option Value)}
    {C0 R0 N0 : Addr} {nm0 q0 : Str} {bs0 : List Value} {sn0 : List Str} {sub0 : List Value} {ab0 : Bool} {col0 : Option Bool} {dd0 : Option Addr} {m00 m10 m30 m50 : Option Value} {mt0 : Tok}
    {C1 R1 N1 : Addr} {nm1 q1 : Str} {bs1 : List Value} {sn1 : List Str} {sub1 : List Value} {ab1 : Bool} {col1 : Option Bool} {dd1 : Option Addr} {m01 m11 m31 m51 : Option Value} {mt1 : Tok}
    {C2 R2 N2 : Addr} {nm2 q2 : Str} {bs2 : List Value} {sn2 : List Str} {sub2 : List Value} {ab2 : Bool} {col2 : Option Bool} {dd2 : Option Addr} {m02 m12 m32 m52 : Option Value} {mt2 : Tok}
    {C3 R3 N3 : Addr} {nm3 q3 : Str} {bs3 : List Value} {sn3 : List Str} {sub3 : List Value} {ab3 : Bool} {col3 : Option Bool} {dd3 : Option Addr} {m03 m13 m33 m53 : Option Value} {mt3 : Tok}
    {C4 R4 N4 : Addr} {nm4 q4 : Str} {bs4 : List Value} {sn4 : List Str} {sub4 : List Value} {ab4 : Bool} {col4 : Option Bool} {dd4 : Option Addr} {m04 m14 m34 m54 : Option Value} {mt4 : Tok}
    {C5 R5 N5 : Addr} {nm5 q5 : Str} {bs5 : List Value} {sn5 : List Str} {sub5 : List Value} {ab5 : Bool} {col5 : Option Bool} {dd5 : Option Addr} {m05 m15 m35 m55 : Option Value} {mt5 : Tok}
    {C6 R6 N6 : Addr} {nm6 q6 : Str} {bs6 : List Value} {sn6 : List Str} {sub6 : List Value} {ab6 : Bool} {col6 : Option Bool} {dd6 : Option Addr} {m06 m16 m36 m56 : Option Value} {mt6 : Tok}
    {C7 R7 N7 : Addr} {nm7 q7 : Str} {bs7 : List Value} {sn7 : List Str} {sub7 : List Value} {ab7 : Bool} {col7 : Option Bool} {dd7 : Option Addr} {m07 m17 m37 m57 : Option Value} {mt7 : Tok}
    {C8 R8 N8 : Addr} {nm8 q8 : Str} {bs8 : List Value} {sn8 : List Str} {sub8 : List Value} {ab8 : Bool} {col8 : Option Bool} {dd8 : Option Addr} {m08 m18 m38 m58 : Option Value} {mt8 : Tok}
    {t0 : Tok}
    {t1 : Tok}
    {t2 : Tok}
    {t3 : Tok}
    {t4 : Tok}
    (a0 : PySem.W.nsIn K mainGlobals "whole" = some (some (.ref f0))) (l0 : K.lookup f0 = some ⟨oc0, od0, .func (PySem.W.fnOf "whole" "whole" (defArgs s_whole) (defBody s_whole) (defScope s_whole) .none kV0 dc0 pm0 an0 cd0 ct0), sl0⟩) (c0 : PySem.W.codeIn K cd0 "whole" = true) (k0 : PySem.W.keepIn K (.ref f0) = true)
    (a1 : PySem.W.nsIn K mainGlobals "whole_within" = some (some (.ref f1))) (l1 : K.lookup f1 = some ⟨oc1, od1, .func (PySem.W.fnOf "whole_within" "whole_within" (defArgs s_whole_within) (defBody s_whole_within) (defScope s_whole_within) .none kV1 dc1 pm1 an1 cd1 ct1), sl1⟩) (c1 : PySem.W.codeIn K cd1 "whole_within" = true) (k1 : PySem.W.keepIn K (.ref f1) = true)
    (a2 : PySem.W.nsIn K mainGlobals "tuple_within" = some (some (.ref f2))) (l2 : K.lookup f2 = some ⟨oc2, od2, .func (PySem.W.fnOf "tuple_within" "tuple_within" (defArgs s_tuple_within) (defBody s_tuple_within) (defScope s_tuple_within) .none kV2 dc2 pm2 an2 cd2 ct2), sl2⟩) (c2 : PySem.W.codeIn K cd2 "tuple_within" = true) (k2 : PySem.W.keepIn K (.ref f2) = true)
    (a3 : PySem.W.nsIn K mainGlobals "first_rows" = some (some (.ref f3))) (l3 : K.lookup f3 = some ⟨oc3, od3, .func (PySem.W.fnOf "first_rows" "first_rows" (defArgs s_first_rows) (defBody s_first_rows) (defScope s_first_rows) (.ref zT3) kV3 dc3 pm3 an3 cd3 ct3), sl3⟩) (c3 : PySem.W.codeIn K cd3 "first_rows" = true) (k3 : PySem.W.keepIn K (.ref f3) = true)
    (df3 : K.lookup zT3 = some ⟨zc3, zo3, .seq #[.int 0 zk3] zn3, zs3⟩)
    (a4 : PySem.W.nsIn K mainGlobals "made_book" = some (some (.ref f4))) (l4 : K.lookup f4 = some ⟨oc4, od4, .func (PySem.W.fnOf "made_book" "made_book" (defArgs s_made_book) (defBody s_made_book) (defScope s_made_book) .none kV4 dc4 pm4 an4 cd4 ct4), sl4⟩) (c4 : PySem.W.codeIn K cd4 "made_book" = true) (k4 : PySem.W.keepIn K (.ref f4) = true)
    (a5 : PySem.W.nsIn K mainGlobals "check_form" = some (some (.ref f5))) (l5 : K.lookup f5 = some ⟨oc5, od5, .func (PySem.W.fnOf "check_form" "check_form" (defArgs s_check_form) (defBody s_check_form) (defScope s_check_form) .none kV5 dc5 pm5 an5 cd5 ct5), sl5⟩) (c5 : PySem.W.codeIn K cd5 "check_form" = true) (k5 : PySem.W.keepIn K (.ref f5) = true)
    (a6 : PySem.W.nsIn K mainGlobals "has_state_form" = some (some (.ref f6))) (l6 : K.lookup f6 = some ⟨oc6, od6, .func (PySem.W.fnOf "has_state_form" "has_state_form" (defArgs s_has_state_form) (defBody s_has_state_form) (defScope s_has_state_form) .none kV6 dc6 pm6 an6 cd6 ct6), sl6⟩) (c6 : PySem.W.codeIn K cd6 "has_state_form" = true) (k6 : PySem.W.keepIn K (.ref f6) = true)
    (a7 : PySem.W.nsIn K mainGlobals "check_state" = some (some (.ref f7))) (l7 : K.lookup f7 = some ⟨oc7, od7, .func (PySem.W.fnOf "check_state" "check_state" (defArgs s_check_state) (defBody s_check_state) (defScope s_check_state) .none kV7 dc7 pm7 an7 cd7 ct7), sl7⟩) (c7 : PySem.W.codeIn K cd7 "check_state" = true) (k7 : PySem.W.keepIn K (.ref f7) = true)
    (a8 : PySem.W.nsIn K mainGlobals "check_message" = some (some (.ref f8))) (l8 : K.lookup f8 = some ⟨oc8, od8, .func (PySem.W.fnOf "check_message" "check_message" (defArgs s_check_message) (defBody s_check_message) (defScope s_check_message) .none kV8 dc8 pm8 an8 cd8 ct8), sl8⟩) (c8 : PySem.W.codeIn K cd8 "check_message" = true) (k8 : PySem.W.keepIn K (.ref f8) = true)
    (a9 : PySem.W.nsIn K mainGlobals "stands" = some (some (.ref f9))) (l9 : K.lookup f9 = some ⟨oc9, od9, .func (PySem.W.fnOf "stands" "stands" (defArgs s_stands) (defBody s_stands) (defScope s_stands) .none kV9 dc9 pm9 an9 cd9 ct9), sl9⟩) (c9 : PySem.W.codeIn K cd9 "stands" = true) (k9 : PySem.W.keepIn K (.ref f9) = true)
    (a10 : PySem.W.nsIn K mainGlobals "forks" = some (some (.ref f10))) (l10 : K.lookup f10 = some ⟨oc10, od10, .func (PySem.W.fnOf "forks" "forks" (defArgs s_forks) (defBody s_forks) (defScope s_forks) .none kV10 dc10 pm10 an10 cd10 ct10), sl10⟩) (c10 : PySem.W.codeIn K cd10 "forks" = true) (k10 : PySem.W.keepIn K (.ref f10) = true)
    (a11 : PySem.W.nsIn K mainGlobals "leads" = some (some (.ref f11))) (l11 : K.lookup f11 = some ⟨oc11, od11, .func (PySem.W.fnOf "leads" "leads" (defArgs s_leads) (defBody s_leads) (defScope s_leads) .none kV11 dc11 pm11 an11 cd11 ct11), sl11⟩) (c11 : PySem.W.codeIn K cd11 "leads" = true) (k11 : PySem.W.keepIn K (.ref f11) = true)
    (a12 : PySem.W.nsIn K mainGlobals "fork_states" = some (some (.ref f12))) (l12 : K.lookup f12 = some ⟨oc12, od12, .func (PySem.W.fnOf "fork_states" "fork_states" (defArgs s_fork_states) (defBody s_fork_states) (defScope s_fork_states) .none kV12 dc12 pm12 an12 cd12 ct12), sl12⟩) (c12 : PySem.W.codeIn K cd12 "fork_states" = true) (k12 : PySem.W.keepIn K (.ref f12) = true)
    (a13 : PySem.W.nsIn K mainGlobals "led_to" = some (some (.ref f13))) (l13 : K.lookup f13 = some ⟨oc13, od13, .func (PySem.W.fnOf "led_to" "led_to" (defArgs s_led_to) (defBody s_led_to) (defScope s_led_to) .none kV13 dc13 pm13 an13 cd13 ct13), sl13⟩) (c13 : PySem.W.codeIn K cd13 "led_to" = true) (k13 : PySem.W.keepIn K (.ref f13) = true)
    (a14 : PySem.W.nsIn K mainGlobals "reach" = some (some (.ref f14))) (l14 : K.lookup f14 = some ⟨oc14, od14, .func (PySem.W.fnOf "reach" "reach" (defArgs s_reach) (defBody s_reach) (defScope s_reach) .none kV14 dc14 pm14 an14 cd14 ct14), sl14⟩) (c14 : PySem.W.codeIn K cd14 "reach" = true) (k14 : PySem.W.keepIn K (.ref f14) = true)
    (a15 : PySem.W.nsIn K mainGlobals "knots" = some (some (.ref f15))) (l15 : K.lookup f15 = some ⟨oc15, od15, .func (PySem.W.fnOf "knots" "knots" (defArgs s_knots) (defBody s_knots) (defScope s_knots) .none kV15 dc15 pm15 an15 cd15 ct15), sl15⟩) (c15 : PySem.W.codeIn K cd15 "knots" = true) (k15 : PySem.W.keepIn K (.ref f15) = true)
    (a16 : PySem.W.nsIn K mainGlobals "ring_forks" = some (some (.ref f16))) (l16 : K.lookup f16 = some ⟨oc16, od16, .func (PySem.W.fnOf "ring_forks" "ring_forks" (defArgs s_ring_forks) (defBody s_ring_forks) (defScope s_ring_forks) .none kV16 dc16 pm16 an16 cd16 ct16), sl16⟩) (c16 : PySem.W.codeIn K cd16 "ring_forks" = true) (k16 : PySem.W.keepIn K (.ref f16) = true)
    (a17 : PySem.W.nsIn K mainGlobals "cut_rows" = some (some (.ref f17))) (l17 : K.lookup f17 = some ⟨oc17, od17, .func (PySem.W.fnOf "cut_rows" "cut_rows" (defArgs s_cut_rows) (defBody s_cut_rows) (defScope s_cut_rows) .none kV17 dc17 pm17 an17 cd17 ct17), sl17⟩) (c17 : PySem.W.codeIn K cd17 "cut_rows" = true) (k17 : PySem.W.keepIn K (.ref f17) = true)
    (a18 : PySem.W.nsIn K mainGlobals "rays" = some (some (.ref f18))) (l18 : K.lookup f18 = some ⟨oc18, od18, .func (PySem.W.fnOf "rays" "rays" (defArgs s_rays) (defBody s_rays) (defScope s_rays) .none kV18 dc18 pm18 an18 cd18 ct18), sl18⟩) (c18 : PySem.W.codeIn K cd18 "rays" = true) (k18 : PySem.W.keepIn K (.ref f18) = true)
    (a19 : PySem.W.nsIn K mainGlobals "first_fork" = some (some (.ref f19))) (l19 : K.lookup f19 = some ⟨oc19, od19, .func (PySem.W.fnOf "first_fork" "first_fork" (defArgs s_first_fork) (defBody s_first_fork) (defScope s_first_fork) .none kV19 dc19 pm19 an19 cd19 ct19), sl19⟩) (c19 : PySem.W.codeIn K cd19 "first_fork" = true) (k19 : PySem.W.keepIn K (.ref f19) = true)
    (a20 : PySem.W.nsIn K mainGlobals "ways_back" = some (some (.ref f20))) (l20 : K.lookup f20 = some ⟨oc20, od20, .func (PySem.W.fnOf "ways_back" "ways_back" (defArgs s_ways_back) (defBody s_ways_back) (defScope s_ways_back) .none kV20 dc20 pm20 an20 cd20 ct20), sl20⟩) (c20 : PySem.W.codeIn K cd20 "ways_back" = true) (k20 : PySem.W.keepIn K (.ref f20) = true)
    (a21 : PySem.W.nsIn K mainGlobals "ring_states" = some (some (.ref f21))) (l21 : K.lookup f21 = some ⟨oc21, od21, .func (PySem.W.fnOf "ring_states" "ring_states" (defArgs s_ring_states) (defBody s_ring_states) (defScope s_ring_states) .none kV21 dc21 pm21 an21 cd21 ct21), sl21⟩) (c21 : PySem.W.codeIn K cd21 "ring_states" = true) (k21 : PySem.W.keepIn K (.ref f21) = true)
    (a22 : PySem.W.nsIn K mainGlobals "forks_on_rings" = some (some (.ref f22))) (l22 : K.lookup f22 = some ⟨oc22, od22, .func (PySem.W.fnOf "forks_on_rings" "forks_on_rings" (defArgs s_forks_on_rings) (defBody s_forks_on_rings) (defScope s_forks_on_rings) .none kV22 dc22 pm22 an22 cd22 ct22), sl22⟩) (c22 : PySem.W.codeIn K cd22 "forks_on_rings" = true) (k22 : PySem.W.keepIn K (.ref f22) = true)
    (a23 : PySem.W.nsIn K mainGlobals "cut_ends" = some (some (.ref f23))) (l23 : K.lookup f23 = some ⟨oc23, od23, .func (PySem.W.fnOf "cut_ends" "cut_ends" (defArgs s_cut_ends) (defBody s_cut_ends) (defScope s_cut_ends) .none kV23 dc23 pm23 an23 cd23 ct23), sl23⟩) (c23 : PySem.W.codeIn K cd23 "cut_ends" = true) (k23 : PySem.W.keepIn K (.ref f23) = true)
    (a24 : PySem.W.nsIn K mainGlobals "made_window" = some (some (.ref f24))) (l24 : K.lookup f24 = some ⟨oc24, od24, .func (PySem.W.fnOf "made_window" "made_window" (defArgs s_made_window) (defBody s_made_window) (defScope s_made_window) .none kV24 dc24 pm24 an24 cd24 ct24), sl24⟩) (c24 : PySem.W.codeIn K cd24 "made_window" = true) (k24 : PySem.W.keepIn K (.ref f24) = true)
    (a25 : PySem.W.nsIn K mainGlobals "check_number" = some (some (.ref f25))) (l25 : K.lookup f25 = some ⟨oc25, od25, .func (PySem.W.fnOf "check_number" "check_number" (defArgs s_check_number) (defBody s_check_number) (defScope s_check_number) .none kV25 dc25 pm25 an25 cd25 ct25), sl25⟩) (c25 : PySem.W.codeIn K cd25 "check_number" = true) (k25 : PySem.W.keepIn K (.ref f25) = true)
    (a26 : PySem.W.nsIn K mainGlobals "ranks" = some (some (.ref f26))) (l26 : K.lookup f26 = some ⟨oc26, od26, .func (PySem.W.fnOf "ranks" "ranks" (defArgs s_ranks) (defBody s_ranks) (defScope s_ranks) .none kV26 dc26 pm26 an26 cd26 ct26), sl26⟩) (c26 : PySem.W.codeIn K cd26 "ranks" = true) (k26 : PySem.W.keepIn K (.ref f26) = true)
    (a27 : PySem.W.nsIn K mainGlobals "lasting" = some (some (.ref f27))) (l27 : K.lookup f27 = some ⟨oc27, od27, .func (PySem.W.fnOf "lasting" "lasting" (defArgs s_lasting) (defBody s_lasting) (defScope s_lasting) .none kV27 dc27 pm27 an27 cd27 ct27), sl27⟩) (c27 : PySem.W.codeIn K cd27 "lasting" = true) (k27 : PySem.W.keepIn K (.ref f27) = true)
    (a28 : PySem.W.nsIn K mainGlobals "special" = some (some (.ref f28))) (l28 : K.lookup f28 = some ⟨oc28, od28, .func (PySem.W.fnOf "special" "special" (defArgs s_special) (defBody s_special) (defScope s_special) .none kV28 dc28 pm28 an28 cd28 ct28), sl28⟩) (c28 : PySem.W.codeIn K cd28 "special" = true) (k28 : PySem.W.keepIn K (.ref f28) = true)
    (a29 : PySem.W.nsIn K mainGlobals "special_for" = some (some (.ref f29))) (l29 : K.lookup f29 = some ⟨oc29, od29, .func (PySem.W.fnOf "special_for" "special_for" (defArgs s_special_for) (defBody s_special_for) (defScope s_special_for) .none kV29 dc29 pm29 an29 cd29 ct29), sl29⟩) (c29 : PySem.W.codeIn K cd29 "special_for" = true) (k29 : PySem.W.keepIn K (.ref f29) = true)
    (a30 : PySem.W.nsIn K mainGlobals "leading_to" = some (some (.ref f30))) (l30 : K.lookup f30 = some ⟨oc30, od30, .func (PySem.W.fnOf "leading_to" "leading_to" (defArgs s_leading_to) (defBody s_leading_to) (defScope s_leading_to) .none kV30 dc30 pm30 an30 cd30 ct30), sl30⟩) (c30 : PySem.W.codeIn K cd30 "leading_to" = true) (k30 : PySem.W.keepIn K (.ref f30) = true)
    (a31 : PySem.W.nsIn K mainGlobals "ranks_for" = some (some (.ref f31))) (l31 : K.lookup f31 = some ⟨oc31, od31, .func (PySem.W.fnOf "ranks_for" "ranks_for" (defArgs s_ranks_for) (defBody s_ranks_for) (defScope s_ranks_for) .none kV31 dc31 pm31 an31 cd31 ct31), sl31⟩) (c31 : PySem.W.codeIn K cd31 "ranks_for" = true) (k31 : PySem.W.keepIn K (.ref f31) = true)
    (a32 : PySem.W.nsIn K mainGlobals "lasting_for" = some (some (.ref f32))) (l32 : K.lookup f32 = some ⟨oc32, od32, .func (PySem.W.fnOf "lasting_for" "lasting_for" (defArgs s_lasting_for) (defBody s_lasting_for) (defScope s_lasting_for) .none kV32 dc32 pm32 an32 cd32 ct32), sl32⟩) (c32 : PySem.W.codeIn K cd32 "lasting_for" = true) (k32 : PySem.W.keepIn K (.ref f32) = true)
    (a33 : PySem.W.nsIn K mainGlobals "least_wires" = some (some (.ref f33))) (l33 : K.lookup f33 = some ⟨oc33, od33, .func (PySem.W.fnOf "least_wires" "least_wires" (defArgs s_least_wires) (defBody s_least_wires) (defScope s_least_wires) .none kV33 dc33 pm33 an33 cd33 ct33), sl33⟩) (c33 : PySem.W.codeIn K cd33 "least_wires" = true) (k33 : PySem.W.keepIn K (.ref f33) = true)
    (a34 : PySem.W.nsIn K mainGlobals "from_window" = some (some (.ref f34))) (l34 : K.lookup f34 = some ⟨oc34, od34, .func (PySem.W.fnOf "from_window" "from_window" (defArgs s_from_window) (defBody s_from_window) (defScope s_from_window) .none kV34 dc34 pm34 an34 cd34 ct34), sl34⟩) (c34 : PySem.W.codeIn K cd34 "from_window" = true) (k34 : PySem.W.keepIn K (.ref f34) = true)
    (a35 : PySem.W.nsIn K mainGlobals "verdict" = some (some (.ref f35))) (l35 : K.lookup f35 = some ⟨oc35, od35, .func (PySem.W.fnOf "verdict" "verdict" (defArgs s_verdict) (defBody s_verdict) (defScope s_verdict) .none kV35 dc35 pm35 an35 cd35 ct35), sl35⟩) (c35 : PySem.W.codeIn K cd35 "verdict" = true) (k35 : PySem.W.keepIn K (.ref f35) = true)
    (a36 : PySem.W.nsIn K mainGlobals "least_for" = some (some (.ref f36))) (l36 : K.lookup f36 = some ⟨oc36, od36, .func (PySem.W.fnOf "least_for" "least_for" (defArgs s_least_for) (defBody s_least_for) (defScope s_least_for) .none kV36 dc36 pm36 an36 cd36 ct36), sl36⟩) (c36 : PySem.W.codeIn K cd36 "least_for" = true) (k36 : PySem.W.keepIn K (.ref f36) = true)
    (a37 : PySem.W.nsIn K mainGlobals "least_free" = some (some (.ref f37))) (l37 : K.lookup f37 = some ⟨oc37, od37, .func (PySem.W.fnOf "least_free" "least_free" (defArgs s_least_free) (defBody s_least_free) (defScope s_least_free) .none kV37 dc37 pm37 an37 cd37 ct37), sl37⟩) (c37 : PySem.W.codeIn K cd37 "least_free" = true) (k37 : PySem.W.keepIn K (.ref f37) = true)
    (a38 : PySem.W.nsIn K mainGlobals "ray_counts" = some (some (.ref f38))) (l38 : K.lookup f38 = some ⟨oc38, od38, .func (PySem.W.fnOf "ray_counts" "ray_counts" (defArgs s_ray_counts) (defBody s_ray_counts) (defScope s_ray_counts) .none kV38 dc38 pm38 an38 cd38 ct38), sl38⟩) (c38 : PySem.W.codeIn K cd38 "ray_counts" = true) (k38 : PySem.W.keepIn K (.ref f38) = true)
    (a39 : PySem.W.nsIn K mainGlobals "_law_pool" = some (some (.ref f39))) (l39 : K.lookup f39 = some ⟨oc39, od39, .func (PySem.W.fnOf "_law_pool" "_law_pool" (defArgs s_law_pool) (defBody s_law_pool) (defScope s_law_pool) .none kV39 dc39 pm39 an39 cd39 ct39), sl39⟩) (c39 : PySem.W.codeIn K cd39 "_law_pool" = true) (k39 : PySem.W.keepIn K (.ref f39) = true)
    (a40 : PySem.W.nsIn K mainGlobals "_law_draw" = some (some (.ref f40))) (l40 : K.lookup f40 = some ⟨oc40, od40, .func (PySem.W.fnOf "_law_draw" "_law_draw" (defArgs s_law_draw) (defBody s_law_draw) (defScope s_law_draw) .none kV40 dc40 pm40 an40 cd40 ct40), sl40⟩) (c40 : PySem.W.codeIn K cd40 "_law_draw" = true) (k40 : PySem.W.keepIn K (.ref f40) = true)
    (a41 : PySem.W.nsIn K mainGlobals "_law_pick" = some (some (.ref f41))) (l41 : K.lookup f41 = some ⟨oc41, od41, .func (PySem.W.fnOf "_law_pick" "_law_pick" (defArgs s_law_pick) (defBody s_law_pick) (defScope s_law_pick) .none kV41 dc41 pm41 an41 cd41 ct41), sl41⟩) (c41 : PySem.W.codeIn K cd41 "_law_pick" = true) (k41 : PySem.W.keepIn K (.ref f41) = true)
    (a42 : PySem.W.nsIn K mainGlobals "_law_book_meeting" = some (some (.ref f42))) (l42 : K.lookup f42 = some ⟨oc42, od42, .func (PySem.W.fnOf "_law_book_meeting" "_law_book_meeting" (defArgs s_law_book_meeting) (defBody s_law_book_meeting) (defScope s_law_book_meeting) .none kV42 dc42 pm42 an42 cd42 ct42), sl42⟩) (c42 : PySem.W.codeIn K cd42 "_law_book_meeting" = true) (k42 : PySem.W.keepIn K (.ref f42) = true)
    (a43 : PySem.W.nsIn K mainGlobals "_law_book_messages" = some (some (.ref f43))) (l43 : K.lookup f43 = some ⟨oc43, od43, .func (PySem.W.fnOf "_law_book_messages" "_law_book_messages" (defArgs s_law_book_messages) (defBody s_law_book_messages) (defScope s_law_book_messages) .none kV43 dc43 pm43 an43 cd43 ct43), sl43⟩) (c43 : PySem.W.codeIn K cd43 "_law_book_messages" = true) (k43 : PySem.W.keepIn K (.ref f43) = true)
    (a44 : PySem.W.nsIn K mainGlobals "_law_book_drawn" = some (some (.ref f44))) (l44 : K.lookup f44 = some ⟨oc44, od44, .func (PySem.W.fnOf "_law_book_drawn" "_law_book_drawn" (defArgs s_law_book_drawn) (defBody s_law_book_drawn) (defScope s_law_book_drawn) .none kV44 dc44 pm44 an44 cd44 ct44), sl44⟩) (c44 : PySem.W.codeIn K cd44 "_law_book_drawn" = true) (k44 : PySem.W.keepIn K (.ref f44) = true)
    (a45 : PySem.W.nsIn K mainGlobals "_law_win_heard" = some (some (.ref f45))) (l45 : K.lookup f45 = some ⟨oc45, od45, .func (PySem.W.fnOf "_law_win_heard" "_law_win_heard" (defArgs s_law_win_heard) (defBody s_law_win_heard) (defScope s_law_win_heard) .none kV45 dc45 pm45 an45 cd45 ct45), sl45⟩) (c45 : PySem.W.codeIn K cd45 "_law_win_heard" = true) (k45 : PySem.W.keepIn K (.ref f45) = true)
    (a46 : PySem.W.nsIn K mainGlobals "_law_win_no_books" = some (some (.ref f46))) (l46 : K.lookup f46 = some ⟨oc46, od46, .func (PySem.W.fnOf "_law_win_no_books" "_law_win_no_books" (defArgs s_law_win_no_books) (defBody s_law_win_no_books) (defScope s_law_win_no_books) .none kV46 dc46 pm46 an46 cd46 ct46), sl46⟩) (c46 : PySem.W.codeIn K cd46 "_law_win_no_books" = true) (k46 : PySem.W.keepIn K (.ref f46) = true)
    (a47 : PySem.W.nsIn K mainGlobals "_law_win_no_windows" = some (some (.ref f47))) (l47 : K.lookup f47 = some ⟨oc47, od47, .func (PySem.W.fnOf "_law_win_no_windows" "_law_win_no_windows" (defArgs s_law_win_no_windows) (defBody s_law_win_no_windows) (defScope s_law_win_no_windows) .none kV47 dc47 pm47 an47 cd47 ct47), sl47⟩) (c47 : PySem.W.codeIn K cd47 "_law_win_no_windows" = true) (k47 : PySem.W.keepIn K (.ref f47) = true)
    (a48 : PySem.W.nsIn K mainGlobals "_law_alone" = some (some (.ref f48))) (l48 : K.lookup f48 = some ⟨oc48, od48, .func (PySem.W.fnOf "_law_alone" "_law_alone" (defArgs s_law_alone) (defBody s_law_alone) (defScope s_law_alone) .none kV48 dc48 pm48 an48 cd48 ct48), sl48⟩) (c48 : PySem.W.codeIn K cd48 "_law_alone" = true) (k48 : PySem.W.keepIn K (.ref f48) = true)
    (a49 : PySem.W.nsIn K mainGlobals "_law_more" = some (some (.ref f49))) (l49 : K.lookup f49 = some ⟨oc49, od49, .func (PySem.W.fnOf "_law_more" "_law_more" (defArgs s_law_more) (defBody s_law_more) (defScope s_law_more) .none kV49 dc49 pm49 an49 cd49 ct49), sl49⟩) (c49 : PySem.W.codeIn K cd49 "_law_more" = true) (k49 : PySem.W.keepIn K (.ref f49) = true)
    (a50 : PySem.W.nsIn K mainGlobals "_law_bent_states" = some (some (.ref f50))) (l50 : K.lookup f50 = some ⟨oc50, od50, .func (PySem.W.fnOf "_law_bent_states" "_law_bent_states" (defArgs s_law_bent_states) (defBody s_law_bent_states) (defScope s_law_bent_states) .none kV50 dc50 pm50 an50 cd50 ct50), sl50⟩) (c50 : PySem.W.codeIn K cd50 "_law_bent_states" = true) (k50 : PySem.W.keepIn K (.ref f50) = true)
    (a51 : PySem.W.nsIn K mainGlobals "_law_books_refused" = some (some (.ref f51))) (l51 : K.lookup f51 = some ⟨oc51, od51, .func (PySem.W.fnOf "_law_books_refused" "_law_books_refused" (defArgs s_law_books_refused) (defBody s_law_books_refused) (defScope s_law_books_refused) .none kV51 dc51 pm51 an51 (.ref cL1) ct51), sl51⟩) (c51 : PySem.W.codeIn K (.ref cL1) "_law_books_refused" = true) (k51 : PySem.W.keepIn K (.ref f51) = true)
    (tbO1 : K.lookup cL1 = some ⟨vc1, vd1, .fields vs1, vl1⟩) (tbV1 : vs1[11]? = some (.ref pL1))
    (tbC1 : PySem.W.codeHdIn K cL1 pL1 = true) (tbN1 : K.lookup pL1 = none)
    (a52 : PySem.W.nsIn K mainGlobals "_law_more_refused" = some (some (.ref f52))) (l52 : K.lookup f52 = some ⟨oc52, od52, .func (PySem.W.fnOf "_law_more_refused" "_law_more_refused" (defArgs s_law_more_refused) (defBody s_law_more_refused) (defScope s_law_more_refused) .none kV52 dc52 pm52 an52 (.ref cL2) ct52), sl52⟩) (c52 : PySem.W.codeIn K (.ref cL2) "_law_more_refused" = true) (k52 : PySem.W.keepIn K (.ref f52) = true)
    (tbO2 : K.lookup cL2 = some ⟨vc2, vd2, .fields vs2, vl2⟩) (tbV2 : vs2[11]? = some (.ref pL2))
    (tbC2 : PySem.W.codeHdIn K cL2 pL2 = true) (tbN2 : K.lookup pL2 = none)
    (a53 : PySem.W.nsIn K mainGlobals "law" = some (some (.ref f53))) (l53 : K.lookup f53 = some ⟨oc53, od53, .func (PySem.W.fnOf "law" "law" (defArgs s_law) (defBody s_law) (defScope s_law) .none kV53 dc53 pm53 an53 (.ref cL0) ct53), sl53⟩) (c53 : PySem.W.codeIn K (.ref cL0) "law" = true) (k53 : PySem.W.keepIn K (.ref f53) = true)
    (tbO0 : K.lookup cL0 = some ⟨vc0, vd0, .fields vs0, vl0⟩) (tbV0 : vs0[11]? = some (.ref pL0))
    (tbC0 : PySem.W.codeHdIn K cL0 pL0 = true) (tbN0 : K.lookup pL0 = none)
    (lI : K.lookup fI = some ⟨ocI, odI, .func (PySem.W.fnOf "__init__" "Refused.__init__" (defArgs s_init) (defBody s_init) (defScope s_init) .none kVI dcI pmI anI cdI ctI), slI⟩) (cI : PySem.W.codeIn K cdI "Refused.__init__" = true) (kI : PySem.W.keepIn K (.ref fI) = true) (tI : PySem.W.typeIn K (.ref fI) = some (.type "function"))
    (xg0 : PySem.W.nsIn K mainGlobals "BadBook" = some (some (.ref C0))) (xl0 : K.lookup C0 = some (excClassObj nm0 q0 C0 N0 bs0 [.ref R0, .type "ValueError", .type "Exception", .type "BaseException", .type "object"] true sn0 sub0 ab0 col0 dd0 m00 m10 (some (.str "BadBook" mt0)) m30 m50 "ValueError.__new__"))
    (xs0 : PySem.W.findIn K (.ref C0) "__setattr__" = some (some (.builtin "object.__setattr__"))) (xe0 : PySem.W.subIn K (.ref C0) (.type "BaseException") = some true) (xt0 : PySem.W.typeIn K (.ref C0) = some (.type "type")) (xk0 : PySem.W.keepIn K (.ref C0) = true)
    (xi0 : PySem.W.findIn K (.ref C0) "__init__" = some (some (.ref fI))) (xa0 : PySem.W.findIn K (.ref C0) "__getattribute__" = some (some (.builtin "BaseException.__getattribute__"))) (xb0 : PySem.W.findIn K (.ref C0) "__getattr__" = some none) (xw0 : PySem.W.findIn K (.ref C0) "what" = some none) (xh0 : PySem.W.hasDictIn K C0 = true) (xc0 : PySem.W.isClsIn K C0 = true)
    (xm0 : PySem.W.mroIn K C0 (.type "object") = some true) (xr0 : PySem.W.readsIn K C0 (.type "type") = true) (xf0 : PySem.W.findCls K (.ref C0) (.type "type") "__name__" = some (.get (.builtin "getset_descriptor.__get__") (.builtin "type.__name__") (.ref C0) (.type "type"))) (xn0 : PySem.W.findIn K (.ref C0) "kind" = some none) (xo0 : PySem.W.findIn K (.ref C0) "__class__" = some (some (.builtin "object.__class__")))
    (xg1 : PySem.W.nsIn K mainGlobals "Stray" = some (some (.ref C1))) (xl1 : K.lookup C1 = some (excClassObj nm1 q1 C1 N1 bs1 [.ref R1, .type "ValueError", .type "Exception", .type "BaseException", .type "object"] true sn1 sub1 ab1 col1 dd1 m01 m11 (some (.str "Stray" mt1)) m31 m51 "ValueError.__new__"))
    (xs1 : PySem.W.findIn K (.ref C1) "__setattr__" = some (some (.builtin "object.__setattr__"))) (xe1 : PySem.W.subIn K (.ref C1) (.type "BaseException") = some true) (xt1 : PySem.W.typeIn K (.ref C1) = some (.type "type")) (xk1 : PySem.W.keepIn K (.ref C1) = true)
    (xi1 : PySem.W.findIn K (.ref C1) "__init__" = some (some (.ref fI))) (xa1 : PySem.W.findIn K (.ref C1) "__getattribute__" = some (some (.builtin "BaseException.__getattribute__"))) (xb1 : PySem.W.findIn K (.ref C1) "__getattr__" = some none) (xw1 : PySem.W.findIn K (.ref C1) "what" = some none) (xh1 : PySem.W.hasDictIn K C1 = true) (xc1 : PySem.W.isClsIn K C1 = true)
    (xm1 : PySem.W.mroIn K C1 (.type "object") = some true) (xr1 : PySem.W.readsIn K C1 (.type "type") = true) (xf1 : PySem.W.findCls K (.ref C1) (.type "type") "__name__" = some (.get (.builtin "getset_descriptor.__get__") (.builtin "type.__name__") (.ref C1) (.type "type"))) (xn1 : PySem.W.findIn K (.ref C1) "kind" = some none) (xo1 : PySem.W.findIn K (.ref C1) "__class__" = some (some (.builtin "object.__class__")))
    (xg2 : PySem.W.nsIn K mainGlobals "BadState" = some (some (.ref C2))) (xl2 : K.lookup C2 = some (excClassObj nm2 q2 C2 N2 bs2 [.ref R2, .type "ValueError", .type "Exception", .type "BaseException", .type "object"] true sn2 sub2 ab2 col2 dd2 m02 m12 (some (.str "BadState" mt2)) m32 m52 "ValueError.__new__"))
    (xs2 : PySem.W.findIn K (.ref C2) "__setattr__" = some (some (.builtin "object.__setattr__"))) (xe2 : PySem.W.subIn K (.ref C2) (.type "BaseException") = some true) (xt2 : PySem.W.typeIn K (.ref C2) = some (.type "type")) (xk2 : PySem.W.keepIn K (.ref C2) = true)
    (xi2 : PySem.W.findIn K (.ref C2) "__init__" = some (some (.ref fI))) (xa2 : PySem.W.findIn K (.ref C2) "__getattribute__" = some (some (.builtin "BaseException.__getattribute__"))) (xb2 : PySem.W.findIn K (.ref C2) "__getattr__" = some none) (xw2 : PySem.W.findIn K (.ref C2) "what" = some none) (xh2 : PySem.W.hasDictIn K C2 = true) (xc2 : PySem.W.isClsIn K C2 = true)
    (xm2 : PySem.W.mroIn K C2 (.type "object") = some true) (xr2 : PySem.W.readsIn K C2 (.type "type") = true) (xf2 : PySem.W.findCls K (.ref C2) (.type "type") "__name__" = some (.get (.builtin "getset_descriptor.__get__") (.builtin "type.__name__") (.ref C2) (.type "type"))) (xn2 : PySem.W.findIn K (.ref C2) "kind" = some none) (xo2 : PySem.W.findIn K (.ref C2) "__class__" = some (some (.builtin "object.__class__")))
    (xg3 : PySem.W.nsIn K mainGlobals "BadMany" = some (some (.ref C3))) (xl3 : K.lookup C3 = some (excClassObj nm3 q3 C3 N3 bs3 [.ref R3, .type "ValueError", .type "Exception", .type "BaseException", .type "object"] true sn3 sub3 ab3 col3 dd3 m03 m13 (some (.str "BadMany" mt3)) m33 m53 "ValueError.__new__"))
    (xs3 : PySem.W.findIn K (.ref C3) "__setattr__" = some (some (.builtin "object.__setattr__"))) (xe3 : PySem.W.subIn K (.ref C3) (.type "BaseException") = some true) (xt3 : PySem.W.typeIn K (.ref C3) = some (.type "type")) (xk3 : PySem.W.keepIn K (.ref C3) = true)
    (xi3 : PySem.W.findIn K (.ref C3) "__init__" = some (some (.ref fI))) (xa3 : PySem.W.findIn K (.ref C3) "__getattribute__" = some (some (.builtin "BaseException.__getattribute__"))) (xb3 : PySem.W.findIn K (.ref C3) "__getattr__" = some none) (xw3 : PySem.W.findIn K (.ref C3) "what" = some none) (xh3 : PySem.W.hasDictIn K C3 = true) (xc3 : PySem.W.isClsIn K C3 = true)
    (xm3 : PySem.W.mroIn K C3 (.type "object") = some true) (xr3 : PySem.W.readsIn K C3 (.type "type") = true) (xf3 : PySem.W.findCls K (.ref C3) (.type "type") "__name__" = some (.get (.builtin "getset_descriptor.__get__") (.builtin "type.__name__") (.ref C3) (.type "type"))) (xn3 : PySem.W.findIn K (.ref C3) "kind" = some none) (xo3 : PySem.W.findIn K (.ref C3) "__class__" = some (some (.builtin "object.__class__")))
    (xg4 : PySem.W.nsIn K mainGlobals "TooMany" = some (some (.ref C4))) (xl4 : K.lookup C4 = some (excClassObj nm4 q4 C4 N4 bs4 [.ref R4, .type "ValueError", .type "Exception", .type "BaseException", .type "object"] true sn4 sub4 ab4 col4 dd4 m04 m14 (some (.str "TooMany" mt4)) m34 m54 "ValueError.__new__"))
    (xs4 : PySem.W.findIn K (.ref C4) "__setattr__" = some (some (.builtin "object.__setattr__"))) (xe4 : PySem.W.subIn K (.ref C4) (.type "BaseException") = some true) (xt4 : PySem.W.typeIn K (.ref C4) = some (.type "type")) (xk4 : PySem.W.keepIn K (.ref C4) = true)
    (xi4 : PySem.W.findIn K (.ref C4) "__init__" = some (some (.ref fI))) (xa4 : PySem.W.findIn K (.ref C4) "__getattribute__" = some (some (.builtin "BaseException.__getattribute__"))) (xb4 : PySem.W.findIn K (.ref C4) "__getattr__" = some none) (xw4 : PySem.W.findIn K (.ref C4) "what" = some none) (xh4 : PySem.W.hasDictIn K C4 = true) (xc4 : PySem.W.isClsIn K C4 = true)
    (xm4 : PySem.W.mroIn K C4 (.type "object") = some true) (xr4 : PySem.W.readsIn K C4 (.type "type") = true) (xf4 : PySem.W.findCls K (.ref C4) (.type "type") "__name__" = some (.get (.builtin "getset_descriptor.__get__") (.builtin "type.__name__") (.ref C4) (.type "type"))) (xn4 : PySem.W.findIn K (.ref C4) "kind" = some none) (xo4 : PySem.W.findIn K (.ref C4) "__class__" = some (some (.builtin "object.__class__")))
    (xg5 : PySem.W.nsIn K mainGlobals "NoMessage" = some (some (.ref C5))) (xl5 : K.lookup C5 = some (excClassObj nm5 q5 C5 N5 bs5 [.ref R5, .type "ValueError", .type "Exception", .type "BaseException", .type "object"] true sn5 sub5 ab5 col5 dd5 m05 m15 (some (.str "NoMessage" mt5)) m35 m55 "ValueError.__new__"))
    (xs5 : PySem.W.findIn K (.ref C5) "__setattr__" = some (some (.builtin "object.__setattr__"))) (xe5 : PySem.W.subIn K (.ref C5) (.type "BaseException") = some true) (xt5 : PySem.W.typeIn K (.ref C5) = some (.type "type")) (xk5 : PySem.W.keepIn K (.ref C5) = true)
    (xi5 : PySem.W.findIn K (.ref C5) "__init__" = some (some (.ref fI))) (xa5 : PySem.W.findIn K (.ref C5) "__getattribute__" = some (some (.builtin "BaseException.__getattribute__"))) (xb5 : PySem.W.findIn K (.ref C5) "__getattr__" = some none) (xw5 : PySem.W.findIn K (.ref C5) "what" = some none) (xh5 : PySem.W.hasDictIn K C5 = true) (xc5 : PySem.W.isClsIn K C5 = true)
    (xm5 : PySem.W.mroIn K C5 (.type "object") = some true) (xr5 : PySem.W.readsIn K C5 (.type "type") = true) (xf5 : PySem.W.findCls K (.ref C5) (.type "type") "__name__" = some (.get (.builtin "getset_descriptor.__get__") (.builtin "type.__name__") (.ref C5) (.type "type"))) (xn5 : PySem.W.findIn K (.ref C5) "kind" = some none) (xo5 : PySem.W.findIn K (.ref C5) "__class__" = some (some (.builtin "object.__class__")))
    (xg6 : PySem.W.nsIn K mainGlobals "BadWindow" = some (some (.ref C6))) (xl6 : K.lookup C6 = some (excClassObj nm6 q6 C6 N6 bs6 [.ref R6, .type "ValueError", .type "Exception", .type "BaseException", .type "object"] true sn6 sub6 ab6 col6 dd6 m06 m16 (some (.str "BadWindow" mt6)) m36 m56 "ValueError.__new__"))
    (xs6 : PySem.W.findIn K (.ref C6) "__setattr__" = some (some (.builtin "object.__setattr__"))) (xe6 : PySem.W.subIn K (.ref C6) (.type "BaseException") = some true) (xt6 : PySem.W.typeIn K (.ref C6) = some (.type "type")) (xk6 : PySem.W.keepIn K (.ref C6) = true)
    (xi6 : PySem.W.findIn K (.ref C6) "__init__" = some (some (.ref fI))) (xa6 : PySem.W.findIn K (.ref C6) "__getattribute__" = some (some (.builtin "BaseException.__getattribute__"))) (xb6 : PySem.W.findIn K (.ref C6) "__getattr__" = some none) (xw6 : PySem.W.findIn K (.ref C6) "what" = some none) (xh6 : PySem.W.hasDictIn K C6 = true) (xc6 : PySem.W.isClsIn K C6 = true)
    (xm6 : PySem.W.mroIn K C6 (.type "object") = some true) (xr6 : PySem.W.readsIn K C6 (.type "type") = true) (xf6 : PySem.W.findCls K (.ref C6) (.type "type") "__name__" = some (.get (.builtin "getset_descriptor.__get__") (.builtin "type.__name__") (.ref C6) (.type "type"))) (xn6 : PySem.W.findIn K (.ref C6) "kind" = some none) (xo6 : PySem.W.findIn K (.ref C6) "__class__" = some (some (.builtin "object.__class__")))
    (xg7 : PySem.W.nsIn K mainGlobals "NoNumber" = some (some (.ref C7))) (xl7 : K.lookup C7 = some (excClassObj nm7 q7 C7 N7 bs7 [.ref R7, .type "ValueError", .type "Exception", .type "BaseException", .type "object"] true sn7 sub7 ab7 col7 dd7 m07 m17 (some (.str "NoNumber" mt7)) m37 m57 "ValueError.__new__"))
    (xs7 : PySem.W.findIn K (.ref C7) "__setattr__" = some (some (.builtin "object.__setattr__"))) (xe7 : PySem.W.subIn K (.ref C7) (.type "BaseException") = some true) (xt7 : PySem.W.typeIn K (.ref C7) = some (.type "type")) (xk7 : PySem.W.keepIn K (.ref C7) = true)
    (xi7 : PySem.W.findIn K (.ref C7) "__init__" = some (some (.ref fI))) (xa7 : PySem.W.findIn K (.ref C7) "__getattribute__" = some (some (.builtin "BaseException.__getattribute__"))) (xb7 : PySem.W.findIn K (.ref C7) "__getattr__" = some none) (xw7 : PySem.W.findIn K (.ref C7) "what" = some none) (xh7 : PySem.W.hasDictIn K C7 = true) (xc7 : PySem.W.isClsIn K C7 = true)
    (xm7 : PySem.W.mroIn K C7 (.type "object") = some true) (xr7 : PySem.W.readsIn K C7 (.type "type") = true) (xf7 : PySem.W.findCls K (.ref C7) (.type "type") "__name__" = some (.get (.builtin "getset_descriptor.__get__") (.builtin "type.__name__") (.ref C7) (.type "type"))) (xn7 : PySem.W.findIn K (.ref C7) "kind" = some none) (xo7 : PySem.W.findIn K (.ref C7) "__class__" = some (some (.builtin "object.__class__")))
    (xg8 : PySem.W.nsIn K mainGlobals "HasLasting" = some (some (.ref C8))) (xl8 : K.lookup C8 = some (excClassObj nm8 q8 C8 N8 bs8 [.ref R8, .type "ValueError", .type "Exception", .type "BaseException", .type "object"] true sn8 sub8 ab8 col8 dd8 m08 m18 (some (.str "HasLasting" mt8)) m38 m58 "ValueError.__new__"))
    (xs8 : PySem.W.findIn K (.ref C8) "__setattr__" = some (some (.builtin "object.__setattr__"))) (xe8 : PySem.W.subIn K (.ref C8) (.type "BaseException") = some true) (xt8 : PySem.W.typeIn K (.ref C8) = some (.type "type")) (xk8 : PySem.W.keepIn K (.ref C8) = true)
    (xi8 : PySem.W.findIn K (.ref C8) "__init__" = some (some (.ref fI))) (xa8 : PySem.W.findIn K (.ref C8) "__getattribute__" = some (some (.builtin "BaseException.__getattribute__"))) (xb8 : PySem.W.findIn K (.ref C8) "__getattr__" = some none) (xw8 : PySem.W.findIn K (.ref C8) "what" = some none) (xh8 : PySem.W.hasDictIn K C8 = true) (xc8 : PySem.W.isClsIn K C8 = true)
    (xm8 : PySem.W.mroIn K C8 (.type "object") = some true) (xr8 : PySem.W.readsIn K C8 (.type "type") = true) (xf8 : PySem.W.findCls K (.ref C8) (.type "type") "__name__" = some (.get (.builtin "getset_descriptor.__get__") (.builtin "type.__name__") (.ref C8) (.type "type"))) (xn8 : PySem.W.findIn K (.ref C8) "kind" = some none) (xo8 : PySem.W.findIn K (.ref C8) "__class__" = some (some (.builtin "object.__class__")))
    (zcn : PySem.W.specialIn K (.builtin "object.__class__") "__get__" = some (some (.builtin "getset_descriptor.__get__"))) (zct : PySem.W.takesIn K (.builtin "object.__class__") = some true)
    (ps_BadBook_BadBook : PySem.W.subIn K (.ref C0) (.ref C0) = some true)
    (ps_Stray_BadBook : PySem.W.subIn K (.ref C1) (.ref C0) = some false)
    (ps_Stray_Stray : PySem.W.subIn K (.ref C1) (.ref C1) = some true)
    (ps_BadState_BadBook : PySem.W.subIn K (.ref C2) (.ref C0) = some false)
    (ps_BadState_Stray : PySem.W.subIn K (.ref C2) (.ref C1) = some false)
    (ps_BadState_BadState : PySem.W.subIn K (.ref C2) (.ref C2) = some true)
    (ps_NoMessage_BadBook : PySem.W.subIn K (.ref C5) (.ref C0) = some false)
    (ps_NoMessage_Stray : PySem.W.subIn K (.ref C5) (.ref C1) = some false)
    (ps_NoMessage_BadState : PySem.W.subIn K (.ref C5) (.ref C2) = some false)
    (ps_NoMessage_NoMessage : PySem.W.subIn K (.ref C5) (.ref C5) = some true)
    (ps_BadMany_BadBook : PySem.W.subIn K (.ref C3) (.ref C0) = some false)
    (ps_BadMany_Stray : PySem.W.subIn K (.ref C3) (.ref C1) = some false)
    (ps_BadMany_BadState : PySem.W.subIn K (.ref C3) (.ref C2) = some false)
    (ps_BadMany_NoMessage : PySem.W.subIn K (.ref C3) (.ref C5) = some false)
    (ps_BadMany_BadMany : PySem.W.subIn K (.ref C3) (.ref C3) = some true)
    (ps_BadWindow_BadBook : PySem.W.subIn K (.ref C6) (.ref C0) = some false)
    (ps_BadWindow_Stray : PySem.W.subIn K (.ref C6) (.ref C1) = some false)
    (ps_BadWindow_BadState : PySem.W.subIn K (.ref C6) (.ref C2) = some false)
    (ps_BadWindow_NoMessage : PySem.W.subIn K (.ref C6) (.ref C5) = some false)
    (ps_BadWindow_BadMany : PySem.W.subIn K (.ref C6) (.ref C3) = some false)
    (ps_BadWindow_BadWindow : PySem.W.subIn K (.ref C6) (.ref C6) = some true)
    (ps_NoNumber_BadBook : PySem.W.subIn K (.ref C7) (.ref C0) = some false)
    (ps_NoNumber_Stray : PySem.W.subIn K (.ref C7) (.ref C1) = some false)
    (ps_NoNumber_BadState : PySem.W.subIn K (.ref C7) (.ref C2) = some false)
    (ps_NoNumber_NoMessage : PySem.W.subIn K (.ref C7) (.ref C5) = some false)
    (ps_NoNumber_BadMany : PySem.W.subIn K (.ref C7) (.ref C3) = some false)
    (ps_NoNumber_BadWindow : PySem.W.subIn K (.ref C7) (.ref C6) = some false)
    (ps_NoNumber_NoNumber : PySem.W.subIn K (.ref C7) (.ref C7) = some true)
    (ps_TooMany_BadBook : PySem.W.subIn K (.ref C4) (.ref C0) = some false)
    (ps_TooMany_Stray : PySem.W.subIn K (.ref C4) (.ref C1) = some false)
    (ps_TooMany_BadState : PySem.W.subIn K (.ref C4) (.ref C2) = some false)
    (ps_TooMany_NoMessage : PySem.W.subIn K (.ref C4) (.ref C5) = some false)
    (ps_TooMany_BadMany : PySem.W.subIn K (.ref C4) (.ref C3) = some false)
    (ps_TooMany_BadWindow : PySem.W.subIn K (.ref C4) (.ref C6) = some false)
    (ps_TooMany_NoNumber : PySem.W.subIn K (.ref C4) (.ref C7) = some false)
    (ps_TooMany_HasLasting : PySem.W.subIn K (.ref C4) (.ref C8) = some false)
    (ps_TooMany_TooMany : PySem.W.subIn K (.ref C4) (.ref C4) = some true)
    (z0 : PySem.W.nsIn K mainGlobals "isinstance" = some none)
    (z1 : PySem.W.nsIn K mainGlobals "int" = some none)
    (z2 : PySem.W.nsIn K mainGlobals "bool" = some none)
    (z3 : PySem.W.nsIn K mainGlobals "tuple" = some none)
    (z4 : PySem.W.nsIn K mainGlobals "len" = some none)
    (z5 : PySem.W.nsIn K mainGlobals "range" = some none)
    (z6 : PySem.W.nsIn K mainGlobals "dict" = some none)
    (z7 : PySem.W.nsIn K mainGlobals "min" = some none)
    (z8 : PySem.W.nsIn K mainGlobals "sorted" = some none)
    (z9 : PySem.W.nsIn K mainGlobals "set" = some none)
    (z10 : PySem.W.nsIn K mainGlobals "any" = some none)
    (z11 : PySem.W.nsIn K mainGlobals "list" = some none)
    (z12 : PySem.W.nsIn K mainGlobals "sum" = some none)
    (z13 : PySem.W.nsIn K mainGlobals "max" = some none)
    (z14 : PySem.W.nsIn K mainGlobals "repr" = some none)
    (y0 : PySem.W.nsIn K mainGlobals "MOST_STATES" = some (some (.int 8 t0)))
    (y1 : PySem.W.nsIn K mainGlobals "MOST_MESSAGES" = some (some (.int 5 t1)))
    (y2 : PySem.W.nsIn K mainGlobals "GREATEST_MESSAGE" = some (some (.int 99 t2)))
    (y3 : PySem.W.nsIn K mainGlobals "MOST_CUT_ROWS" = some (some (.int 120 t3)))
    (y4 : PySem.W.nsIn K mainGlobals "LAST_WINDOW" = some (some (.int 9 t4)))
    (tbD0_1 : (pL0 == pL1) = false)
    (tbD0_2 : (pL0 == pL2) = false)
    (tbD1_2 : (pL1 == pL2) = false)
    : (∀ p ∈ [(cL0, pL0), (cL1, pL1), (cL2, pL2)], K.lookup p.2 = none ∧ PySem.W.codeHdIn K p.1 p.2 = true) ∧ ∃ fd : FuncData, (∀ (s : Shared) (v : Value), BindsTo s fd ⟨[v], []⟩ [("script", v)]) ∧ ∀ base : Heap, K.In base → base.Ns mainGlobals mg → (∀ p ∈ [(cL0, pL0), (cL1, pL1), (cL2, pL2)], LamX.TabB base mg p.1 p.2) → FnG l.prog w K mg base CX0 12 fa fd ["script"] (spLaw K [(cL0, pL0), (cL1, pL1), (cL2, pL2)]) := by
  have T : Tx K mg := {
    whole := mkDef X G a0 l0 c0 k0 fun _ _ _ _ _ _ us hl => match us, hl with | [_], _ => rfl
    whole_within := mkDef X G a1 l1 c1 k1 fun _ _ _ _ _ _ us hl => match us, hl with | [_, _, _], _ => rfl
    tuple_within := mkDef X G a2 l2 c2 k2 fun _ _ _ _ _ _ us hl => match us, hl with | [_, _, _], _ => rfl
    first_rows := mkDefD ⟨zk3, rfl⟩ X G a3 l3 c3 k3 df3 1 rfl (fun _ _ _ _ _ _ _ us its h1 h2 => match us, its, h1, h2 with | [_], [_], _, _ => ⟨_, rfl, rfl⟩) (fun _ _ _ _ _ _ _ us its h1 h2 => match us, its, h1, h2 with | [_, _], [_], _, _ => ⟨_, rfl, rfl⟩)
    made_book := mkDef X G a4 l4 c4 k4 fun _ _ _ _ _ _ us hl => match us, hl with | [_], _ => rfl
    check_form := mkDef X G a5 l5 c5 k5 fun _ _ _ _ _ _ us hl => match us, hl with | [_], _ => rfl
    has_state_form := mkDef X G a6 l6 c6 k6 fun _ _ _ _ _ _ us hl => match us, hl with | [_, _], _ => rfl
    check_state := mkDef X G a7 l7 c7 k7 fun _ _ _ _ _ _ us hl => match us, hl with | [_, _], _ => rfl
    check_message := mkDef X G a8 l8 c8 k8 fun _ _ _ _ _ _ us hl => match us, hl with | [_, _, _], _ => rfl
    stands := mkDef X G a9 l9 c9 k9 fun _ _ _ _ _ _ us hl => match us, hl with | [_, _, _], _ => rfl
    forks := mkDef X G a10 l10 c10 k10 fun _ _ _ _ _ _ us hl => match us, hl with | [_], _ => rfl
    leads := mkDef X G a11 l11 c11 k11 fun _ _ _ _ _ _ us hl => match us, hl with | [_, _, _, _], _ => rfl
    fork_states := mkDef X G a12 l12 c12 k12 fun _ _ _ _ _ _ us hl => match us, hl with | [_], _ => rfl
    led_to := mkDef X G a13 l13 c13 k13 fun _ _ _ _ _ _ us hl => match us, hl with | [_, _, _, _], _ => rfl
    reach := mkDef X G a14 l14 c14 k14 fun _ _ _ _ _ _ us hl => match us, hl with | [_, _, _], _ => rfl
    knots := mkDef X G a15 l15 c15 k15 fun _ _ _ _ _ _ us hl => match us, hl with | [_], _ => rfl
    ring_forks := mkDef X G a16 l16 c16 k16 fun _ _ _ _ _ _ us hl => match us, hl with | [_], _ => rfl
    cut_rows := mkDef X G a17 l17 c17 k17 fun _ _ _ _ _ _ us hl => match us, hl with | [_], _ => rfl
    rays := mkDef X G a18 l18 c18 k18 fun _ _ _ _ _ _ us hl => match us, hl with | [_], _ => rfl
    first_fork := mkDef X G a19 l19 c19 k19 fun _ _ _ _ _ _ us hl => match us, hl with | [_], _ => rfl
    ways_back := mkDef X G a20 l20 c20 k20 fun _ _ _ _ _ _ us hl => match us, hl with | [_, _], _ => rfl
    ring_states := mkDef X G a21 l21 c21 k21 fun _ _ _ _ _ _ us hl => match us, hl with | [_], _ => rfl
    forks_on_rings := mkDef X G a22 l22 c22 k22 fun _ _ _ _ _ _ us hl => match us, hl with | [_], _ => rfl
    cut_ends := mkDef X G a23 l23 c23 k23 fun _ _ _ _ _ _ us hl => match us, hl with | [_], _ => rfl
    made_window := mkDef X G a24 l24 c24 k24 fun _ _ _ _ _ _ us hl => match us, hl with | [_], _ => rfl
    check_number := mkDef X G a25 l25 c25 k25 fun _ _ _ _ _ _ us hl => match us, hl with | [_], _ => rfl
    ranks := mkDef X G a26 l26 c26 k26 fun _ _ _ _ _ _ us hl => match us, hl with | [_, _], _ => rfl
    lasting := mkDef X G a27 l27 c27 k27 fun _ _ _ _ _ _ us hl => match us, hl with | [_, _], _ => rfl
    special := mkDef X G a28 l28 c28 k28 fun _ _ _ _ _ _ us hl => match us, hl with | [_, _, _], _ => rfl
    special_for := mkDef X G a29 l29 c29 k29 fun _ _ _ _ _ _ us hl => match us, hl with | [_, _, _, _], _ => rfl
    leading_to := mkDef X G a30 l30 c30 k30 fun _ _ _ _ _ _ us hl => match us, hl with | [_, _, _, _], _ => rfl
    ranks_for := mkDef X G a31 l31 c31 k31 fun _ _ _ _ _ _ us hl => match us, hl with | [_, _], _ => rfl
    lasting_for := mkDef X G a32 l32 c32 k32 fun _ _ _ _ _ _ us hl => match us, hl with | [_, _], _ => rfl
    least_wires := mkDef X G a33 l33 c33 k33 fun _ _ _ _ _ _ us hl => match us, hl with | [_, _], _ => rfl
    from_window := mkDef X G a34 l34 c34 k34 fun _ _ _ _ _ _ us hl => match us, hl with | [_], _ => rfl
    verdict := mkDef X G a35 l35 c35 k35 fun _ _ _ _ _ _ us hl => match us, hl with | [_], _ => rfl
    least_for := mkDef X G a36 l36 c36 k36 fun _ _ _ _ _ _ us hl => match us, hl with | [_, _], _ => rfl
    least_free := mkDef X G a37 l37 c37 k37 fun _ _ _ _ _ _ us hl => match us, hl with | [_], _ => rfl
    ray_counts := mkDef X G a38 l38 c38 k38 fun _ _ _ _ _ _ us hl => match us, hl with | [_], _ => rfl
    law_pool := mkDef X G a39 l39 c39 k39 fun _ _ _ _ _ _ us hl => match us, hl with | [_], _ => rfl
    law_draw := mkDef X G a40 l40 c40 k40 fun _ _ _ _ _ _ us hl => match us, hl with | [_, _], _ => rfl
    law_pick := mkDef X G a41 l41 c41 k41 fun _ _ _ _ _ _ us hl => match us, hl with | [_, _], _ => rfl
    law_book_meeting := mkDef X G a42 l42 c42 k42 fun _ _ _ _ _ _ us hl => match us, hl with | [_], _ => rfl
    law_book_messages := mkDef X G a43 l43 c43 k43 fun _ _ _ _ _ _ us hl => match us, hl with | [_, _], _ => rfl
    law_book_drawn := mkDef X G a44 l44 c44 k44 fun _ _ _ _ _ _ us hl => match us, hl with | [_, _, _], _ => rfl
    law_win_heard := mkDef X G a45 l45 c45 k45 fun _ _ _ _ _ _ us hl => match us, hl with | [_], _ => rfl
    law_win_no_books := mkDef X G a46 l46 c46 k46 fun _ _ _ _ _ _ us hl => match us, hl with | [_, _], _ => rfl
    law_win_no_windows := mkDef X G a47 l47 c47 k47 fun _ _ _ _ _ _ us hl => match us, hl with | [], _ => rfl
    law_alone := mkDef X G a48 l48 c48 k48 fun _ _ _ _ _ _ us hl => match us, hl with | [_, _], _ => rfl
    law_more := mkDef X G a49 l49 c49 k49 fun _ _ _ _ _ _ us hl => match us, hl with | [_, _, _], _ => rfl
    law_bent_states := mkDef X G a50 l50 c50 k50 fun _ _ _ _ _ _ us hl => match us, hl with | [_], _ => rfl
    law_books_refused := mkDef X G a51 l51 c51 k51 fun _ _ _ _ _ _ us hl => match us, hl with | [_, _], _ => rfl
    law_more_refused := mkDef X G a52 l52 c52 k52 fun _ _ _ _ _ _ us hl => match us, hl with | [_, _], _ => rfl
    law := mkDef X G a53 l53 c53 k53 fun _ _ _ _ _ _ us hl => match us, hl with | [_], _ => rfl
    init := ⟨fI, _, fun_mk lI cI kI, tI, fun us hl => match us, hl with | [_, _], _ => rfl⟩
    x_BadBook := ⟨C0, PySem.W.mg_of X G xg0, ⟨⟨_, _, _, _, _, _, _, _, _, _, _, _, _, _, _, xl0, (show PySem.HandSPX.refsVE [.type "ValueError", .type "Exception", .type "BaseException", .type "object"] = true by decide +kernel)⟩, xs0, xe0, xt0, xk0⟩, xi0, xa0, xb0, xw0, ⟨xa0, xb0, xe0, xc0, xo0, zcn, zct, xm0, xr0, xf0, ⟨_, _, _, _, mt0, xl0, rfl⟩, xn0⟩, xh0, xc0⟩
    x_Stray := ⟨C1, PySem.W.mg_of X G xg1, ⟨⟨_, _, _, _, _, _, _, _, _, _, _, _, _, _, _, xl1, (show PySem.HandSPX.refsVE [.type "ValueError", .type "Exception", .type "BaseException", .type "object"] = true by decide +kernel)⟩, xs1, xe1, xt1, xk1⟩, xi1, xa1, xb1, xw1, ⟨xa1, xb1, xe1, xc1, xo1, zcn, zct, xm1, xr1, xf1, ⟨_, _, _, _, mt1, xl1, rfl⟩, xn1⟩, xh1, xc1⟩
    x_BadState := ⟨C2, PySem.W.mg_of X G xg2, ⟨⟨_, _, _, _, _, _, _, _, _, _, _, _, _, _, _, xl2, (show PySem.HandSPX.refsVE [.type "ValueError", .type "Exception", .type "BaseException", .type "object"] = true by decide +kernel)⟩, xs2, xe2, xt2, xk2⟩, xi2, xa2, xb2, xw2, ⟨xa2, xb2, xe2, xc2, xo2, zcn, zct, xm2, xr2, xf2, ⟨_, _, _, _, mt2, xl2, rfl⟩, xn2⟩, xh2, xc2⟩
    x_BadMany := ⟨C3, PySem.W.mg_of X G xg3, ⟨⟨_, _, _, _, _, _, _, _, _, _, _, _, _, _, _, xl3, (show PySem.HandSPX.refsVE [.type "ValueError", .type "Exception", .type "BaseException", .type "object"] = true by decide +kernel)⟩, xs3, xe3, xt3, xk3⟩, xi3, xa3, xb3, xw3, ⟨xa3, xb3, xe3, xc3, xo3, zcn, zct, xm3, xr3, xf3, ⟨_, _, _, _, mt3, xl3, rfl⟩, xn3⟩, xh3, xc3⟩
    x_TooMany := ⟨C4, PySem.W.mg_of X G xg4, ⟨⟨_, _, _, _, _, _, _, _, _, _, _, _, _, _, _, xl4, (show PySem.HandSPX.refsVE [.type "ValueError", .type "Exception", .type "BaseException", .type "object"] = true by decide +kernel)⟩, xs4, xe4, xt4, xk4⟩, xi4, xa4, xb4, xw4, ⟨xa4, xb4, xe4, xc4, xo4, zcn, zct, xm4, xr4, xf4, ⟨_, _, _, _, mt4, xl4, rfl⟩, xn4⟩, xh4, xc4⟩
    x_NoMessage := ⟨C5, PySem.W.mg_of X G xg5, ⟨⟨_, _, _, _, _, _, _, _, _, _, _, _, _, _, _, xl5, (show PySem.HandSPX.refsVE [.type "ValueError", .type "Exception", .type "BaseException", .type "object"] = true by decide +kernel)⟩, xs5, xe5, xt5, xk5⟩, xi5, xa5, xb5, xw5, ⟨xa5, xb5, xe5, xc5, xo5, zcn, zct, xm5, xr5, xf5, ⟨_, _, _, _, mt5, xl5, rfl⟩, xn5⟩, xh5, xc5⟩
    x_BadWindow := ⟨C6, PySem.W.mg_of X G xg6, ⟨⟨_, _, _, _, _, _, _, _, _, _, _, _, _, _, _, xl6, (show PySem.HandSPX.refsVE [.type "ValueError", .type "Exception", .type "BaseException", .type "object"] = true by decide +kernel)⟩, xs6, xe6, xt6, xk6⟩, xi6, xa6, xb6, xw6, ⟨xa6, xb6, xe6, xc6, xo6, zcn, zct, xm6, xr6, xf6, ⟨_, _, _, _, mt6, xl6, rfl⟩, xn6⟩, xh6, xc6⟩
    x_NoNumber := ⟨C7, PySem.W.mg_of X G xg7, ⟨⟨_, _, _, _, _, _, _, _, _, _, _, _, _, _, _, xl7, (show PySem.HandSPX.refsVE [.type "ValueError", .type "Exception", .type "BaseException", .type "object"] = true by decide +kernel)⟩, xs7, xe7, xt7, xk7⟩, xi7, xa7, xb7, xw7, ⟨xa7, xb7, xe7, xc7, xo7, zcn, zct, xm7, xr7, xf7, ⟨_, _, _, _, mt7, xl7, rfl⟩, xn7⟩, xh7, xc7⟩
    x_HasLasting := ⟨C8, PySem.W.mg_of X G xg8, ⟨⟨_, _, _, _, _, _, _, _, _, _, _, _, _, _, _, xl8, (show PySem.HandSPX.refsVE [.type "ValueError", .type "Exception", .type "BaseException", .type "object"] = true by decide +kernel)⟩, xs8, xe8, xt8, xk8⟩, xi8, xa8, xb8, xw8, ⟨xa8, xb8, xe8, xc8, xo8, zcn, zct, xm8, xr8, xf8, ⟨_, _, _, _, mt8, xl8, rfl⟩, xn8⟩, xh8, xc8⟩
    s_BadBook_BadBook := ps_BadBook_BadBook
    s_Stray_BadBook := ps_Stray_BadBook
    s_Stray_Stray := ps_Stray_Stray
    s_BadState_BadBook := ps_BadState_BadBook
    s_BadState_Stray := ps_BadState_Stray
    s_BadState_BadState := ps_BadState_BadState
    s_NoMessage_BadBook := ps_NoMessage_BadBook
    s_NoMessage_Stray := ps_NoMessage_Stray
    s_NoMessage_BadState := ps_NoMessage_BadState
    s_NoMessage_NoMessage := ps_NoMessage_NoMessage
    s_BadMany_BadBook := ps_BadMany_BadBook
    s_BadMany_Stray := ps_BadMany_Stray
    s_BadMany_BadState := ps_BadMany_BadState
    s_BadMany_NoMessage := ps_BadMany_NoMessage
    s_BadMany_BadMany := ps_BadMany_BadMany
    s_BadWindow_BadBook := ps_BadWindow_BadBook
    s_BadWindow_Stray := ps_BadWindow_Stray
    s_BadWindow_BadState := ps_BadWindow_BadState
    s_BadWindow_NoMessage := ps_BadWindow_NoMessage
    s_BadWindow_BadMany := ps_BadWindow_BadMany
    s_BadWindow_BadWindow := ps_BadWindow_BadWindow
    s_NoNumber_BadBook := ps_NoNumber_BadBook
    s_NoNumber_Stray := ps_NoNumber_Stray
    s_NoNumber_BadState := ps_NoNumber_BadState
    s_NoNumber_NoMessage := ps_NoNumber_NoMessage
    s_NoNumber_BadMany := ps_NoNumber_BadMany
    s_NoNumber_BadWindow := ps_NoNumber_BadWindow
    s_NoNumber_NoNumber := ps_NoNumber_NoNumber
    s_TooMany_BadBook := ps_TooMany_BadBook
    s_TooMany_Stray := ps_TooMany_Stray
    s_TooMany_BadState := ps_TooMany_BadState
    s_TooMany_NoMessage := ps_TooMany_NoMessage
    s_TooMany_BadMany := ps_TooMany_BadMany
    s_TooMany_BadWindow := ps_TooMany_BadWindow
    s_TooMany_NoNumber := ps_TooMany_NoNumber
    s_TooMany_HasLasting := ps_TooMany_HasLasting
    s_TooMany_TooMany := ps_TooMany_TooMany
    n_isinstance := PySem.W.mg_none_of X G z0
    n_int := PySem.W.mg_none_of X G z1
    n_bool := PySem.W.mg_none_of X G z2
    n_tuple := PySem.W.mg_none_of X G z3
    n_len := PySem.W.mg_none_of X G z4
    n_range := PySem.W.mg_none_of X G z5
    n_dict := PySem.W.mg_none_of X G z6
    n_min := PySem.W.mg_none_of X G z7
    n_sorted := PySem.W.mg_none_of X G z8
    n_set := PySem.W.mg_none_of X G z9
    n_any := PySem.W.mg_none_of X G z10
    n_list := PySem.W.mg_none_of X G z11
    n_sum := PySem.W.mg_none_of X G z12
    n_max := PySem.W.mg_none_of X G z13
    n_repr := PySem.W.mg_none_of X G z14
    c_MOST_STATES := ⟨_, PySem.W.mg_of X G y0⟩
    c_MOST_MESSAGES := ⟨_, PySem.W.mg_of X G y1⟩
    c_GREATEST_MESSAGE := ⟨_, PySem.W.mg_of X G y2⟩
    c_MOST_CUT_ROWS := ⟨_, PySem.W.mg_of X G y3⟩
    c_LAST_WINDOW := ⟨_, PySem.W.mg_of X G y4⟩
  }
  have gl : T.law.f = fa := Value.ref.inj (Option.some.inj (T.law.g.symm.trans hfa))
  refine ⟨fun p hp => ?_, ?_⟩
  · simp only [List.mem_cons, List.not_mem_nil, or_false] at hp
    rcases hp with rfl | rfl | rfl
    · exact ⟨tbN0, tbC0⟩
    · exact ⟨tbN1, tbC1⟩
    · exact ⟨tbN2, tbC2⟩
  obtain rfl : f53 = fa := Value.ref.inj (Option.some.inj ((PySem.W.mg_of X G a53).symm.trans hfa))
  refine ⟨PySem.W.fnOf "law" "law" (defArgs s_law) (defBody s_law) (defScope s_law) .none kV53 dc53 pm53 an53 (.ref cL0) ct53, fun s v => .of_eq rfl, fun base _ _ TB => ?_⟩
  have gr0 : T.law.f = f53 := Value.ref.inj (Option.some.inj (T.law.g.symm.trans (PySem.W.mg_of X G a53)))
  have gr1 : T.law_books_refused.f = f51 := Value.ref.inj (Option.some.inj (T.law_books_refused.g.symm.trans (PySem.W.mg_of X G a51)))
  have gr2 : T.law_more_refused.f = f52 := Value.ref.inj (Option.some.inj (T.law_more_refused.g.symm.trans (PySem.W.mg_of X G a52)))
  have r := ok_law (P := l.prog) (w := w) (base := base) T (by rw [gr0]; exact l53) c53 (TB (cL0, pL0) (by simp)) (by rw [gr1]; exact l51) c51 (TB (cL1, pL1) (by simp)) (by rw [gr2]; exact l52) c52 (TB (cL2, pL2) (by simp)) (fun z => by have z : pL0 = pL1 := z; rw [z] at tbD0_1; simp at tbD0_1) (fun z => by have z : pL0 = pL2 := z; rw [z] at tbD0_2; simp at tbD0_2) (fun z => by have z : pL1 = pL2 := z; rw [z] at tbD1_2; simp at tbD1_2)
  rw [gl] at r
  exact r
end Nv
open PySem PySem.W PyProof.Rows
set_option maxRecDepth 100000 in
set_option maxHeartbeats 0 in
theorem PySem.Challenge.cw_neverfour_k92_forks_and_windows_refused_holds : PySem.Challenge.rw_neverfour_k92_forks_and_windows_refused.Holds := by
  w_on; o_law; k_head; (case hw => w_witness2)
  k_fill
  refine' Nv.endGTs (Ts := [(?tc0, ?tp0), (?tc1, ?tp1), (?tc2, ?tp2)]) (l := PySem.Challenge.rw_neverfour_k92_forks_and_windows_refused) (n := 63) (k := 12) (x := "script") (sp := Nv.spLaw) rfl (by decide) rfl ⟨rfl, by decide, by decide⟩ (fun w h Y => PySem.W.km_in_of Y) ?HP ?F (fun _ _ a ns hl hS hP => ⟨a, ns, rfl, hS, hl, hP, fun _ => rfl⟩)
  case F =>
    intro w mg fa h KX G hmg
    refine' Nv.all_mk KX G hmg ?a0 ?l0 ?c0 ?k0 ?a1 ?l1 ?c1 ?k1 ?a2 ?l2 ?c2 ?k2 ?a3 ?l3 ?c3 ?k3 ?df3 ?a4 ?l4 ?c4 ?k4 ?a5 ?l5 ?c5 ?k5 ?a6 ?l6 ?c6 ?k6 ?a7 ?l7 ?c7 ?k7 ?a8 ?l8 ?c8 ?k8 ?a9 ?l9 ?c9 ?k9 ?a10 ?l10 ?c10 ?k10 ?a11 ?l11 ?c11 ?k11 ?a12 ?l12 ?c12 ?k12 ?a13 ?l13 ?c13 ?k13 ?a14 ?l14 ?c14 ?k14 ?a15 ?l15 ?c15 ?k15 ?a16 ?l16 ?c16 ?k16 ?a17 ?l17 ?c17 ?k17 ?a18 ?l18 ?c18 ?k18 ?a19 ?l19 ?c19 ?k19 ?a20 ?l20 ?c20 ?k20 ?a21 ?l21 ?c21 ?k21 ?a22 ?l22 ?c22 ?k22 ?a23 ?l23 ?c23 ?k23 ?a24 ?l24 ?c24 ?k24 ?a25 ?l25 ?c25 ?k25 ?a26 ?l26 ?c26 ?k26 ?a27 ?l27 ?c27 ?k27 ?a28 ?l28 ?c28 ?k28 ?a29 ?l29 ?c29 ?k29 ?a30 ?l30 ?c30 ?k30 ?a31 ?l31 ?c31 ?k31 ?a32 ?l32 ?c32 ?k32 ?a33 ?l33 ?c33 ?k33 ?a34 ?l34 ?c34 ?k34 ?a35 ?l35 ?c35 ?k35 ?a36 ?l36 ?c36 ?k36 ?a37 ?l37 ?c37 ?k37 ?a38 ?l38 ?c38 ?k38 ?a39 ?l39 ?c39 ?k39 ?a40 ?l40 ?c40 ?k40 ?a41 ?l41 ?c41 ?k41 ?a42 ?l42 ?c42 ?k42 ?a43 ?l43 ?c43 ?k43 ?a44 ?l44 ?c44 ?k44 ?a45 ?l45 ?c45 ?k45 ?a46 ?l46 ?c46 ?k46 ?a47 ?l47 ?c47 ?k47 ?a48 ?l48 ?c48 ?k48 ?a49 ?l49 ?c49 ?k49 ?a50 ?l50 ?c50 ?k50 ?a51 ?l51 ?c51 ?k51 ?tbO1 ?tbV1 ?tbC1 ?tbN1 ?a52 ?l52 ?c52 ?k52 ?tbO2 ?tbV2 ?tbC2 ?tbN2 ?a53 ?l53 ?c53 ?k53 ?tbO0 ?tbV0 ?tbC0 ?tbN0 ?lI ?cI ?kI ?tI ?xg0 ?xl0 ?xs0 ?xe0 ?xt0 ?xk0 ?xi0 ?xa0 ?xb0 ?xw0 ?xh0 ?xc0 ?xm0 ?xr0 ?xf0 ?xn0 ?xo0 ?xg1 ?xl1 ?xs1 ?xe1 ?xt1 ?xk1 ?xi1 ?xa1 ?xb1 ?xw1 ?xh1 ?xc1 ?xm1 ?xr1 ?xf1 ?xn1 ?xo1 ?xg2 ?xl2 ?xs2 ?xe2 ?xt2 ?xk2 ?xi2 ?xa2 ?xb2 ?xw2 ?xh2 ?xc2 ?xm2 ?xr2 ?xf2 ?xn2 ?xo2 ?xg3 ?xl3 ?xs3 ?xe3 ?xt3 ?xk3 ?xi3 ?xa3 ?xb3 ?xw3 ?xh3 ?xc3 ?xm3 ?xr3 ?xf3 ?xn3 ?xo3 ?xg4 ?xl4 ?xs4 ?xe4 ?xt4 ?xk4 ?xi4 ?xa4 ?xb4 ?xw4 ?xh4 ?xc4 ?xm4 ?xr4 ?xf4 ?xn4 ?xo4 ?xg5 ?xl5 ?xs5 ?xe5 ?xt5 ?xk5 ?xi5 ?xa5 ?xb5 ?xw5 ?xh5 ?xc5 ?xm5 ?xr5 ?xf5 ?xn5 ?xo5 ?xg6 ?xl6 ?xs6 ?xe6 ?xt6 ?xk6 ?xi6 ?xa6 ?xb6 ?xw6 ?xh6 ?xc6 ?xm6 ?xr6 ?xf6 ?xn6 ?xo6 ?xg7 ?xl7 ?xs7 ?xe7 ?xt7 ?xk7 ?xi7 ?xa7 ?xb7 ?xw7 ?xh7 ?xc7 ?xm7 ?xr7 ?xf7 ?xn7 ?xo7 ?xg8 ?xl8 ?xs8 ?xe8 ?xt8 ?xk8 ?xi8 ?xa8 ?xb8 ?xw8 ?xh8 ?xc8 ?xm8 ?xr8 ?xf8 ?xn8 ?xo8 ?zcn ?zct ?ps_BadBook_BadBook ?ps_Stray_BadBook ?ps_Stray_Stray ?ps_BadState_BadBook ?ps_BadState_Stray ?ps_BadState_BadState ?ps_NoMessage_BadBook ?ps_NoMessage_Stray ?ps_NoMessage_BadState ?ps_NoMessage_NoMessage ?ps_BadMany_BadBook ?ps_BadMany_Stray ?ps_BadMany_BadState ?ps_BadMany_NoMessage ?ps_BadMany_BadMany ?ps_BadWindow_BadBook ?ps_BadWindow_Stray ?ps_BadWindow_BadState ?ps_BadWindow_NoMessage ?ps_BadWindow_BadMany ?ps_BadWindow_BadWindow ?ps_NoNumber_BadBook ?ps_NoNumber_Stray ?ps_NoNumber_BadState ?ps_NoNumber_NoMessage ?ps_NoNumber_BadMany ?ps_NoNumber_BadWindow ?ps_NoNumber_NoNumber ?ps_TooMany_BadBook ?ps_TooMany_Stray ?ps_TooMany_BadState ?ps_TooMany_NoMessage ?ps_TooMany_BadMany ?ps_TooMany_BadWindow ?ps_TooMany_NoNumber ?ps_TooMany_HasLasting ?ps_TooMany_TooMany ?z0 ?z1 ?z2 ?z3 ?z4 ?z5 ?z6 ?z7 ?z8 ?z9 ?z10 ?z11 ?z12 ?z13 ?z14 ?y0 ?y1 ?y2 ?y3 ?y4 ?tbD0_1 ?tbD0_2 ?tbD1_2
    (case a0 => k_is); (case l0 => k_is); (case c0 => k_is); (case k0 => k_is); (case a1 => k_is); (case l1 => k_is)
    (case c1 => k_is); (case k1 => k_is); (case a2 => k_is); (case l2 => k_is); (case c2 => k_is); (case k2 => k_is)
    (case a3 => k_is); (case l3 => k_is); (case c3 => k_is); (case k3 => k_is); (case df3 => k_is); (case a4 => k_is)
    (case l4 => k_is); (case c4 => k_is); (case k4 => k_is); (case a5 => k_is); (case l5 => k_is); (case c5 => k_is)
    (case k5 => k_is); (case a6 => k_is); (case l6 => k_is); (case c6 => k_is); (case k6 => k_is); (case a7 => k_is)
    (case l7 => k_is); (case c7 => k_is); (case k7 => k_is); (case a8 => k_is); (case l8 => k_is); (case c8 => k_is)
    (case k8 => k_is); (case a9 => k_is); (case l9 => k_is); (case c9 => k_is); (case k9 => k_is); (case a10 => k_is)
    (case l10 => k_is); (case c10 => k_is); (case k10 => k_is); (case a11 => k_is); (case l11 => k_is); (case c11 => k_is)
    (case k11 => k_is); (case a12 => k_is); (case l12 => k_is); (case c12 => k_is); (case k12 => k_is); (case a13 => k_is)
    (case l13 => k_is); (case c13 => k_is); (case k13 => k_is); (case a14 => k_is); (case l14 => k_is); (case c14 => k_is)
    (case k14 => k_is); (case a15 => k_is); (case l15 => k_is); (case c15 => k_is); (case k15 => k_is); (case a16 => k_is)
    (case l16 => k_is); (case c16 => k_is); (case k16 => k_is); (case a17 => k_is); (case l17 => k_is); (case c17 => k_is)
    (case k17 => k_is); (case a18 => k_is); (case l18 => k_is); (case c18 => k_is); (case k18 => k_is); (case a19 => k_is)
    (case l19 => k_is); (case c19 => k_is); (case k19 => k_is); (case a20 => k_is); (case l20 => k_is); (case c20 => k_is)
    (case k20 => k_is); (case a21 => k_is); (case l21 => k_is); (case c21 => k_is); (case k21 => k_is); (case a22 => k_is)
    (case l22 => k_is); (case c22 => k_is); (case k22 => k_is); (case a23 => k_is); (case l23 => k_is); (case c23 => k_is)
    (case k23 => k_is); (case a24 => k_is); (case l24 => k_is); (case c24 => k_is); (case k24 => k_is); (case a25 => k_is)
    (case l25 => k_is); (case c25 => k_is); (case k25 => k_is); (case a26 => k_is); (case l26 => k_is); (case c26 => k_is)
    (case k26 => k_is); (case a27 => k_is); (case l27 => k_is); (case c27 => k_is); (case k27 => k_is); (case a28 => k_is)
    (case l28 => k_is); (case c28 => k_is); (case k28 => k_is); (case a29 => k_is); (case l29 => k_is); (case c29 => k_is)
    (case k29 => k_is); (case a30 => k_is); (case l30 => k_is); (case c30 => k_is); (case k30 => k_is); (case a31 => k_is)
    (case l31 => k_is); (case c31 => k_is); (case k31 => k_is); (case a32 => k_is); (case l32 => k_is); (case c32 => k_is)
    (case k32 => k_is); (case a33 => k_is); (case l33 => k_is); (case c33 => k_is); (case k33 => k_is); (case a34 => k_is)
    (case l34 => k_is); (case c34 => k_is); (case k34 => k_is); (case a35 => k_is); (case l35 => k_is); (case c35 => k_is)
    (case k35 => k_is); (case a36 => k_is); (case l36 => k_is); (case c36 => k_is); (case k36 => k_is); (case a37 => k_is)
    (case l37 => k_is); (case c37 => k_is); (case k37 => k_is); (case a38 => k_is); (case l38 => k_is); (case c38 => k_is)
    (case k38 => k_is); (case a39 => k_is); (case l39 => k_is); (case c39 => k_is); (case k39 => k_is); (case a40 => k_is)
    (case l40 => k_is); (case c40 => k_is); (case k40 => k_is); (case a41 => k_is); (case l41 => k_is); (case c41 => k_is)
    (case k41 => k_is); (case a42 => k_is); (case l42 => k_is); (case c42 => k_is); (case k42 => k_is); (case a43 => k_is)
    (case l43 => k_is); (case c43 => k_is); (case k43 => k_is); (case a44 => k_is); (case l44 => k_is); (case c44 => k_is)
    (case k44 => k_is); (case a45 => k_is); (case l45 => k_is); (case c45 => k_is); (case k45 => k_is); (case a46 => k_is)
    (case l46 => k_is); (case c46 => k_is); (case k46 => k_is); (case a47 => k_is); (case l47 => k_is); (case c47 => k_is)
    (case k47 => k_is); (case a48 => k_is); (case l48 => k_is); (case c48 => k_is); (case k48 => k_is); (case a49 => k_is)
    (case l49 => k_is); (case c49 => k_is); (case k49 => k_is); (case a50 => k_is); (case l50 => k_is); (case c50 => k_is)
    (case k50 => k_is); (case a51 => k_is); (case l51 => k_is); (case c51 => k_is); (case k51 => k_is); (case tbO1 => k_is)
    (case tbV1 => rfl); (case tbC1 => kernel_rfl); (case tbN1 => kernel_rfl); (case a52 => k_is); (case l52 => k_is); (case c52 => k_is)
    (case k52 => k_is); (case tbO2 => k_is); (case tbV2 => rfl); (case tbC2 => kernel_rfl); (case tbN2 => kernel_rfl); (case a53 => k_is)
    (case l53 => k_is); (case c53 => k_is); (case k53 => k_is); (case tbO0 => k_is); (case tbV0 => rfl); (case tbC0 => kernel_rfl)
    (case tbN0 => kernel_rfl); (case xg0 => k_is); (case xl0 => k_is); (case xs0 => k_is); (case xe0 => k_is); (case xt0 => k_is)
    (case xk0 => k_is); (case xi0 => k_is); (case xa0 => k_is); (case xb0 => k_is); (case xw0 => k_is); (case xh0 => k_is)
    (case xc0 => k_is); (case xm0 => k_is); (case xr0 => k_is); (case xf0 => k_is); (case xn0 => k_is); (case xo0 => k_is)
    (case xg1 => k_is); (case xl1 => k_is); (case xs1 => k_is); (case xe1 => k_is); (case xt1 => k_is); (case xk1 => k_is)
    (case xi1 => k_is); (case xa1 => k_is); (case xb1 => k_is); (case xw1 => k_is); (case xh1 => k_is); (case xc1 => k_is)
    (case xm1 => k_is); (case xr1 => k_is); (case xf1 => k_is); (case xn1 => k_is); (case xo1 => k_is); (case xg2 => k_is)
    (case xl2 => k_is); (case xs2 => k_is); (case xe2 => k_is); (case xt2 => k_is); (case xk2 => k_is); (case xi2 => k_is)
    (case xa2 => k_is); (case xb2 => k_is); (case xw2 => k_is); (case xh2 => k_is); (case xc2 => k_is); (case xm2 => k_is)
    (case xr2 => k_is); (case xf2 => k_is); (case xn2 => k_is); (case xo2 => k_is); (case xg3 => k_is); (case xl3 => k_is)
    (case xs3 => k_is); (case xe3 => k_is); (case xt3 => k_is); (case xk3 => k_is); (case xi3 => k_is); (case xa3 => k_is)
    (case xb3 => k_is); (case xw3 => k_is); (case xh3 => k_is); (case xc3 => k_is); (case xm3 => k_is); (case xr3 => k_is)
    (case xf3 => k_is); (case xn3 => k_is); (case xo3 => k_is); (case xg4 => k_is); (case xl4 => k_is); (case xs4 => k_is)
    (case xe4 => k_is); (case xt4 => k_is); (case xk4 => k_is); (case xi4 => k_is); (case xa4 => k_is); (case xb4 => k_is)
    (case xw4 => k_is); (case xh4 => k_is); (case xc4 => k_is); (case xm4 => k_is); (case xr4 => k_is); (case xf4 => k_is)
    (case xn4 => k_is); (case xo4 => k_is); (case xg5 => k_is); (case xl5 => k_is); (case xs5 => k_is); (case xe5 => k_is)
    (case xt5 => k_is); (case xk5 => k_is); (case xi5 => k_is); (case xa5 => k_is); (case xb5 => k_is); (case xw5 => k_is)
    (case xh5 => k_is); (case xc5 => k_is); (case xm5 => k_is); (case xr5 => k_is); (case xf5 => k_is); (case xn5 => k_is)
    (case xo5 => k_is); (case xg6 => k_is); (case xl6 => k_is); (case xs6 => k_is); (case xe6 => k_is); (case xt6 => k_is)
    (case xk6 => k_is); (case xi6 => k_is); (case xa6 => k_is); (case xb6 => k_is); (case xw6 => k_is); (case xh6 => k_is)
    (case xc6 => k_is); (case xm6 => k_is); (case xr6 => k_is); (case xf6 => k_is); (case xn6 => k_is); (case xo6 => k_is)
    (case xg7 => k_is); (case xl7 => k_is); (case xs7 => k_is); (case xe7 => k_is); (case xt7 => k_is); (case xk7 => k_is)
    (case xi7 => k_is); (case xa7 => k_is); (case xb7 => k_is); (case xw7 => k_is); (case xh7 => k_is); (case xc7 => k_is)
    (case xm7 => k_is); (case xr7 => k_is); (case xf7 => k_is); (case xn7 => k_is); (case xo7 => k_is); (case xg8 => k_is)
    (case xl8 => k_is); (case xs8 => k_is); (case xe8 => k_is); (case xt8 => k_is); (case xk8 => k_is); (case xi8 => k_is)
    (case xa8 => k_is); (case xb8 => k_is); (case xw8 => k_is); (case xh8 => k_is); (case xc8 => k_is); (case xm8 => k_is)
    (case xr8 => k_is); (case xf8 => k_is); (case xn8 => k_is); (case xo8 => k_is); (case zcn => k_is); (case zct => k_is)
    (case ps_BadBook_BadBook => k_is); (case ps_Stray_BadBook => k_is); (case ps_Stray_Stray => k_is); (case ps_BadState_BadBook => k_is); (case ps_BadState_Stray => k_is); (case ps_BadState_BadState => k_is)
    (case ps_NoMessage_BadBook => k_is); (case ps_NoMessage_Stray => k_is); (case ps_NoMessage_BadState => k_is); (case ps_NoMessage_NoMessage => k_is); (case ps_BadMany_BadBook => k_is); (case ps_BadMany_Stray => k_is)
    (case ps_BadMany_BadState => k_is); (case ps_BadMany_NoMessage => k_is); (case ps_BadMany_BadMany => k_is); (case ps_BadWindow_BadBook => k_is); (case ps_BadWindow_Stray => k_is); (case ps_BadWindow_BadState => k_is)
    (case ps_BadWindow_NoMessage => k_is); (case ps_BadWindow_BadMany => k_is); (case ps_BadWindow_BadWindow => k_is); (case ps_NoNumber_BadBook => k_is); (case ps_NoNumber_Stray => k_is); (case ps_NoNumber_BadState => k_is)
    (case ps_NoNumber_NoMessage => k_is); (case ps_NoNumber_BadMany => k_is); (case ps_NoNumber_BadWindow => k_is); (case ps_NoNumber_NoNumber => k_is); (case ps_TooMany_BadBook => k_is); (case ps_TooMany_Stray => k_is)
    (case ps_TooMany_BadState => k_is); (case ps_TooMany_NoMessage => k_is); (case ps_TooMany_BadMany => k_is); (case ps_TooMany_BadWindow => k_is); (case ps_TooMany_NoNumber => k_is); (case ps_TooMany_HasLasting => k_is)
    (case ps_TooMany_TooMany => k_is); (case z0 => k_is); (case z1 => k_is); (case z2 => k_is); (case z3 => k_is); (case z4 => k_is)
    (case z5 => k_is); (case z6 => k_is); (case z7 => k_is); (case z8 => k_is); (case z9 => k_is); (case z10 => k_is)
    (case z11 => k_is); (case z12 => k_is); (case z13 => k_is); (case z14 => k_is); (case y0 => k_is); (case y1 => k_is)
    (case y2 => k_is); (case y3 => k_is); (case y4 => k_is); (case tbD0_1 => kernel_rfl); (case tbD0_2 => kernel_rfl); (case tbD1_2 => kernel_rfl)
    (case lI => k_is); (case cI => k_is); (case kI => k_is); (case tI => k_is)
  case HP =>
    intro w h Y p hp
    refine PySem.W.km_tabs_of Y _ ?_
    simp only [List.mem_cons, List.not_mem_nil, or_false] at hp
    rcases hp with rfl | rfl | rfl <;> decide
