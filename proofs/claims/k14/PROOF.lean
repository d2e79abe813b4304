import PyProof.Rows.All
import Wide.All
import OpenK.AllK
import Wide.FinOn
import HandS.ForMost
import HandS.Strs
import HandS.SetFor
import PyProof.Rows.SetFrom
import HandS.IsInst
import HandS.RaiseMore
import PyProof.ReprRoads
import KE.KDictPairs
import HandS.TupAny
import HandS.Iter
import HandS.Walk
import KE.GoesEnum
import HandS.ForExc
import HandS.ExcOwn
import HandS.WordsExc
import HandS.ExcIs
import HandS.SlotsOwn
import KE.KTypeName
import HandS.ExcInit
import HandS.Style
import HandS.Flow
import HandS.Codes
import HandS.Conv
import HandS.Defaults
import PySem.Challenge.RW_neverfour_k14_least_numbers
import HandS.TupMul
import PyProof.ReprBulk
import PyProof.CallFns
import HandS.EndTab
import HandS.NestedK
set_option Elab.async false
set_option linter.all false
set_option maxRecDepth 100000
namespace Nv
open PySem PySem.Spec PyProof.Rows L2
section
variable {P : Program} {w : World} {A : Around} {E : Value → Shared → Prop} {s : Shared}
/-- an empty set as set(..) begins it -/
abbrev noSet (w : World) : Obj := { cls := .type "set", dict := none, data := .set #[] 0 (.fresh 0 0 (!w.params.followText "set-order")) }

/-- set.__init__ of a list of ints -/
theorem fillSet {S l : Addr} {xs : Array Value} {ns : List Int} {Q : Value → Shared → Prop} (quiet : A.handled = none)
    (hS : s.heap.get? S = some (noSet w)) (hl : s.heap.IsList l xs) (hi : IntsAre xs.toList ns) (room : ns.length + 1 < scanBound)
    (k : ∀ (g : Heap) (t c : Nat), SetR w g S (fun j => decide (j ∈ ns)) c → c ≤ ns.length → (∀ b o, b ≠ S → s.heap.get? b = some o → g.get? b = some o) → Q .none { s with heap := g, toks := t }) :
    codeAny (model P w) A (.call (.builtin "set.__init__") ⟨[.ref S, .ref l], []⟩) (wants Q E) s := by
  have sz : xs.size = ns.length := by have q := IntsAre.length hi; rwa [Array.length_toList] at q
  refine codeAny_call_builtin F.called_set.init.plain F.entry_set_init (check_set_init_1 ⟨_, hS, rfl⟩ ?_)
  obtain ⟨⟨lc, ld, ldata, lsl⟩, hol, hcl, nl, hdl⟩ := hl
  simp only at hcl hdl
  subst hcl hdl
  have sub1 := F.sub_list_set
  have sub2 := F.sub_list_frozenset
  have nodict : (Value.type "list" == Value.type "dict") = false := by decide
  have lst : s.heap.IsList l xs := ⟨_, hol, rfl, nl, rfl⟩
  have lS : l ≠ S := fun e => by
    subst e
    exact absurd (congrArg Obj.cls (Option.some.inj (hol.symm.trans hS))) (show ¬ Value.type "list" = Value.type "set" by decide)
  unfold Builtin.«set.__init__» noKeywords Builtin.Frozenset.updateFrom
  generalize hPI : pyIter = PI
  wp_walk
  subst hPI
  refine wpAny_pyIter_list lst ?_
  refine wpAny_bind (wpAny_runValue ?_)
  have lt1 : l < s.heap.objs.size := Heap.lt_size hol
  have lt2 : S < s.heap.objs.size := Heap.lt_size hS
  have q3 : A.in1.in1.handled = none := by simp [quiet]
  have apart : S ∉ [s.heap.objs.size, l] := by
    intro z
    rcases List.mem_cons.mp z with e | z
    · exact absurd e (Nat.ne_of_lt lt2)
    · exact lS (List.mem_singleton.mp z).symm
  have each : ∀ (i : Nat) (v : Value), xs[i]? = some v → ∃ n t, ns[i]? = some n ∧ v = .int n t := fun i v hv => by
    have b : i < ns.length := by rw [← sz]; exact (Array.getElem?_eq_some_iff.mp hv).1
    obtain ⟨t, e⟩ := IntsAre.int_at hi i v (by rw [Array.getElem?_toList]; exact hv)
    refine ⟨ns[i], t, List.getElem?_eq_getElem b, ?_⟩
    rw [e, List.getD_eq_getElem?_getD, List.getElem?_eq_getElem b]
    rfl
  refine set_update_ints ((Walks.list q3 s.heap.objs.size l (Nat.ne_of_lt lt1) xs).toS) S apart ns sz room each (xs.size - 0) 0 _ (by omega) (Nat.zero_le _) ⟨⟨_, Heap.get?_push_size _ rfl, rfl, rfl⟩, lst.push _⟩ ?z ?r
  case z => exact ⟨0, Nat.le_refl 0, setR_new_at (Heap.get?_push_of_some _ hS)⟩
  case r =>
    intro s2 c mv hc R
    obtain ⟨g, g2, d2, t2, o2⟩ := s2
    have e1 : g2 = s.gens := mv.gens
    have e2 : d2 = s.drawn := mv.drawn
    have e3 : o2 = s.os := mv.os
    subst e1 e2 e3
    show wpAny _ _ _ _ _ _
    refine wpAny_pure ?_
    show wpAny _ _ (ret Value.none) _ _ _
    rw [sz] at hc
    refine wpAny_pure (k g t2 c R hc fun b o nb e => ?_)
    have hb : b < s.heap.objs.size := Heap.lt_size e
    refine mv.heap b o (fun z => ?_) (Heap.get?_push_of_some _ e)
    rcases List.mem_cons.mp z with z | z
    · exact nb z
    · exact absurd (List.mem_singleton.mp z) (Nat.ne_of_lt hb)
/-- set(l), l a list of ints -/
theorem setOf {l : Addr} {xs : Array Value} {ns : List Int} {Q : Value → Shared → Prop} (quiet : A.handled = none) (hl : s.heap.IsList l xs) (hi : IntsAre xs.toList ns) (room : ns.length + 1 < scanBound)
    (k : ∀ (g : Heap) (t c : Nat), SetR w g s.heap.objs.size (fun j => decide (j ∈ ns)) c → c ≤ ns.length → (∀ b o, s.heap.get? b = some o → g.get? b = some o) → Q (.ref s.heap.objs.size) { s with heap := g, toks := t }) :
    wpAny (model P w) A (call (.type "set") [.ref l]) Q E s := by
  obtain ⟨c0, tl, mro⟩ := F.called_set.mro
  have made := F.called_set.made
  have sub := F.called_set.sub
  refine wpAny_call (codeAny_of_tree ?_)
  show wpAny _ _ (callAny (.type "set") _) _ _ _
  refine wpAny_pure ⟨Code.quiet_builtin _ (by decide +kernel), codeAny_builtin F.entry_type_call ?_⟩
  rw [Around.under_plain (weight_type_call_type "set" [.ref l] []) rfl]
  have f1 := F.called_set.notType
  have f2 := F.called_set.canCreate
  have f3 := F.typeCall_set_1 (.ref l)
  repeat (any_goals (first | assumption | wp_step))
  refine codeAny_mono (code_set_led1 (w := w) (.ref l) (E := E) (Q₁ := fun v s1 => v = .ref s.heap.objs.size ∧ s1 = { s with heap := s.heap.push (noSet w) }) ⟨rfl, rfl⟩) fun r s1 hr => ?_
  rcases r with e | fl
  · exact hr
  · cases fl with
    | ret v =>
      obtain ⟨rfl, rfl⟩ := hr
      have at0 : (s.heap.push (noSet w)).get? s.heap.objs.size = some (noSet w) := Heap.get?_push_size _ rfl
      have ty : Shared.TypeIs { s with heap := s.heap.push (noSet w) } (.ref s.heap.objs.size) "set" := ⟨_, at0, rfl⟩
      have f4 := F.called_set.init.lookup
      have f5 := F.called_set.init.bind (.ref s.heap.objs.size)
      repeat (any_goals (first | assumption | wp_step))
      refine codeAny_mono (fillSet (E := E) (Q := fun v s2 => v = .none ∧ ∃ g t c, s2 = { s with heap := g, toks := t } ∧ SetR w g s.heap.objs.size (fun j => decide (j ∈ ns)) c ∧ c ≤ ns.length ∧ ∀ b o, s.heap.get? b = some o → g.get? b = some o)
        (by simp [quiet]) at0 (hl.push _) hi room fun g t c R hc kp => ⟨rfl, g, t, c, rfl, R, hc, fun b o e => kp b o (Nat.ne_of_lt (Heap.lt_size e)) (Heap.get?_push_of_some _ e)⟩) fun r2 s2 hr2 => ?_
      rcases r2 with e | fl2
      · exact hr2
      · cases fl2 with
        | ret v2 =>
          obtain ⟨rfl, g, t, c, rfl, R, hc, kp⟩ := hr2
          repeat (any_goals (first | assumption | wp_step))
          exact k g t c R hc kp
        | _ => exact hr2.elim
    | _ => exact hr.elim
end
/-- set(l): the new set -/
def rSetI (K : PySem.W.Frag) (w : World) : List V → Hp → VK → Prop := fun xs H Q => ∃ (l : Addr) (ns : List Int), xs = [.ref l] ∧ SqL K H l (ns.map V.int) ∧ ns.length ≤ 4000 ∧ ∀ (p : Addr) (c : Nat), H p = none → c ≤ ns.length → Q (.ref p) (upd H p (SetO w p (fun j => decide (j ∈ ns)) c))
theorem cr_setI {X : Cx} (hc : X.calm = true) : CallR X (.type "set") (rSetI X.K X.w) := by
  intro pins s σ H xs us Q I r h
  obtain ⟨l, ns, rfl, hq, hz, q⟩ := h
  obtain ⟨u, rfl, rx⟩ := vals1 r
  cases rx
  obtain ⟨its, rv, ⟨o, n, ho, hcl, hd, hdat⟩, _⟩ := I.list hq
  refine setOf (I.ok.hd hc) (show s.heap.IsList l its.toArray from ⟨o, ho, hcl, n, hdat⟩) (ints_of_vals rv) (by unfold scanBound; omega) fun g t c R hcn kp => ?_
  have new : H s.heap.objs.size = none := I.hok.fresh (Nat.le_refl _)
  exact ⟨.ref s.heap.objs.size, upd H s.heap.objs.size (SetO X.w s.heap.objs.size (fun j => decide (j ∈ ns)) c), I.laid (t' := t) kp (Nat.le_refl _) (setO_new R), rfl, q _ c new hcn⟩
end Nv
set_option Elab.async false
set_option linter.all false
set_option maxRecDepth 100000
namespace Nv
open PySem PySem.Spec PyProof.Rows L2
/-! ### tuples whose object is known to have no dict of its own -/
def TupZ (H : Hp) (a : Addr) (xs : List V) : Prop := ∃ o : Obj, H a = some (.frz o (.tup xs)) ∧ o.dict = none
theorem TupZ.sq {K : PySem.W.Frag} {H : Hp} {a : Addr} {xs : List V} (h : TupZ H a xs) : SqT K H a xs := by
  obtain ⟨o, e, _⟩ := h
  exact .inl (.inr ⟨o, e⟩)
def rTupZ (K : PySem.W.Frag) : List V → Hp → VK → Prop := fun xs H Q => ∃ (p : Addr) (ys : List V), xs = [.ref p] ∧ SqL K H p ys ∧ ∀ (l : Addr) (H' : Hp), H l = none → (∃ o : Obj, o.dict = none ∧ H' = upd H l (.frz o (.tup ys))) → Q (.ref l) H'
theorem call_tupZ {X : Cx} : CallR X (.type "tuple") (rTupZ X.K) := by
  intro pins s σ H xs us Q I r h
  obtain ⟨p, ys, rfl, hq, q⟩ := h
  obtain ⟨u, rfl, rx⟩ := vals1 r
  cases rx
  obtain ⟨its, rv, pl, hz⟩ := I.list hq
  have hlen := rv.length
  refine call_tuple_list pl.isList (fun g kp => ?_) (by simp only [List.size_toArray]; omega)
  have I1 : Inv X pins σ H { s with heap := g } := I.kept (t' := s.toks) kp
  have I2 : Inv X pins σ (upd H g.objs.size (.frz { cls := .type "tuple", data := .seq its.toArray } (.tup ys))) { s with heap := g.push { cls := .type "tuple", data := .seq its.toArray } } :=
    I1.laid (t' := s.toks) (fun b o e => Heap.get?_push_of_some _ e) (Nat.le_refl _) (show ObjOk X.prog X.w _ _ _ (.frz _ (.tup ys)) from ⟨Heap.get?_push_size _ rfl, hz, its, rv, IsTup.new _ _⟩)
  exact ⟨.ref g.objs.size, _, I2, rfl, q _ _ (I1.hok.fresh (Nat.le_refl _)) ⟨_, rfl, rfl⟩⟩

theorem pickL {α : Type} {n : Nat} {R : Nat → α → Prop} (h : ∀ j, j < n → ∃ x, R j x) : ∃ l : List α, l.length = n ∧ ∀ j x, l[j]? = some x → R j x := by
  induction n with
  | zero => exact ⟨[], rfl, fun j x e => by simp at e⟩
  | succ n ih =>
    obtain ⟨l, hl, hR⟩ := ih fun j hj => h j (Nat.lt_succ_of_lt hj)
    obtain ⟨x, hx⟩ := h n (Nat.lt_succ_self n)
    refine ⟨l ++ [x], by simp [hl], fun j y e => ?_⟩
    by_cases hj : j < n
    · rw [List.getElem?_append_left (by omega)] at e
      exact hR j y e
    · rw [List.getElem?_append_right (by omega)] at e
      have hj2 : j = n := by
        have := (List.getElem?_eq_some_iff.mp e).1
        simp at this
        omega
      subst hj2
      rw [hl, Nat.sub_self] at e
      cases e
      exact hx
/-! ### dict(t), t such a tuple of pairs -/
def rDictT (K : PySem.W.Frag) : List V → Hp → VK → Prop := fun xs H Q => ∃ (a : Addr) (ps : List Addr) (kvs : List (Key × V)), xs = [.ref a] ∧ TupZ H a (ps.map V.ref) ∧ Paired (fun p kv => SqT K H p [kV kv.1, kv.2]) ps kvs ∧
  ∀ p, H p = none → Q (.ref p) (upd H p (.dK (mergeK [] kvs)))
theorem call_dictT {X : Cx} (hc : X.calm = true) : CallR X (.type "dict") (rDictT X.K) := by
  intro pins s σ H xs us Q I r h
  obtain ⟨a, ps, kvs, rfl, ⟨o, ha, hd⟩, hp, q⟩ := h
  obtain ⟨u, rfl, rx⟩ := vals1 r
  cases rx
  have ok := I.hok a _ ha
  obtain ⟨hget, hz, its, rv, o2, ho2, hcl, n, hdat⟩ := ok
  have eo : o = o2 := Option.some.inj (hget.symm.trans ho2)
  subst eo
  have ei := refs_at rv
  subst ei
  rw [List.length_map] at hz
  obtain ⟨prs, rel, hl, hpr⟩ := pairs_of I hp
  -- the pairs as values
  obtain ⟨ws, wl, hw⟩ := pickL (n := prs.length) (R := fun j (x : Value × Value) => ∃ b kv, ps[j]? = some b ∧ prs[j]? = some kv ∧ kv.2 = x.2 ∧ IsTup s.heap b #[x.1, x.2] ∧ keyIs kv.1 x.1 = true) fun j hj => by
    obtain ⟨b, u, e1, e2, e3⟩ := hpr j prs[j] (List.getElem?_eq_getElem hj)
    exact ⟨(u, prs[j].2), b, prs[j], e1, List.getElem?_eq_getElem hj, rfl, e2, e3⟩
  have P := PairArg.tuple (prog := X.prog) (w := X.w) a (ps.map Value.ref).toArray (fun j => ps.getD j 0) ws
  refine PySem.call_dict_pairs (knd := mixKind X.prog X.w) (kvs := prs) P (I.ok.hd hc) ⟨⟨o, n, hget, hcl, hd, hdat⟩, by simp [wl, hl], fun j k v e => ?_⟩ ⟨by rw [wl], fun i key v e => ?_⟩ (by rw [wl, hl]; exact hz) fun g tk hd' kp => ?_
  · obtain ⟨b, kv, e1, e2, e3, e4, e5⟩ := hw j (k, v) e
    refine ⟨by simp [e1], ?_⟩
    show PairAt s.heap (ps.getD j 0) k v
    rw [List.getD_eq_getElem?_getD, e1]
    obtain ⟨ob, h1, h2, m, h3⟩ := e4
    exact .inl ⟨ob, h1, h2, m, h3⟩
  · obtain ⟨b, kv, e1, e2, e3, e4, e5⟩ := hw i (key, v) e
    obtain ⟨k0, v0⟩ := kv
    cases e3
    exact ⟨k0, e2, e5⟩
  · have kall : ∀ b o, s.heap.get? b = some o → g.get? b = some o := fun b o e => kp b o (by simp) e
    have hm : (s.heap.objs.size == sysModules) = false := beq_eq_false_iff_ne.mpr (Nat.ne_of_gt I.big)
    have hlen : (mergeK [] kvs).length ≤ sizeLine := by
      refine Nat.le_trans (length_mergeK kvs []) ?_
      rw [List.length_nil, Nat.zero_add, rel.length, hl]
      exact hz
    exact ⟨.ref s.heap.objs.size, upd H s.heap.objs.size (.dK (mergeK [] kvs)), I.laid (t' := tk) kall (Nat.le_refl _) (show ObjOk X.prog X.w _ _ _ (.dK (mergeK [] kvs)) from ⟨hlen, hm, merged [] prs, KV.merge rel .nil, hd'⟩), rfl, q _ (I.hok.fresh (Nat.le_refl _))⟩

/-! ### repr -/
theorem isDisp_of {K : PySem.W.Frag} {H : Hp} {a : Addr} {d : PyData} (h : Dp K H (.ref a) d) : (∃ ds, d = .list ds) ∨ ∃ ds, d = .tuple ds := by
  cases h with
  | lst _ _ => exact .inl ⟨_, rfl⟩
  | tup _ _ => exact .inr ⟨_, rfl⟩
/-- repr(x) of data at an address; nothing is being shown around -/
def rRepr (K : PySem.W.Frag) : List V → Hp → VK → Prop := fun xs H Q => ∃ (a : Addr) (d : PyData), xs = [.ref a] ∧ Dp K H (.ref a) d ∧ d.showable = true ∧ d.hasDict = false ∧ d.depth ≤ 60 ∧ d.shown.length ≤ sizeLine ∧ Q (.str d.shown) H
theorem call_reprD {X : Cx} (hu : X.A.units + 64 < cLine) (hg : X.A.guards = some []) : CallR X (.builtin "repr") (rRepr X.K) := by
  intro pins s σ H xs us Q I r h
  obtain ⟨a, d, rfl, hd, h1, h2, h3, h4, q⟩ := h
  obtain ⟨u, rfl, rx⟩ := vals1 r
  obtain ⟨as, rd⟩ := Dp.reads I d _ _ hd rx
  cases rx
  refine repr_of_reads' rd h1 (fun z => by rw [h2] at z; cases z) hg (by omega) (fun b o e => e) (fun g u tk kp => ?_) h4
  exact ⟨.str d.shown, H, I.kept (t' := tk) kp, ⟨u, rfl⟩, q⟩
end Nv
set_option Elab.async false
set_option linter.all false
set_option maxRecDepth 100000
namespace Nv
open PySem PySem.Spec PyProof.Rows L2
/-! ### defs that are called where nothing is being shown (repr looks at that) -/
structure FnG (P : Program) (w : World) (K : PySem.W.Frag) (mg : Str → Option Value) (base : Heap) (CX : CXT) (k : Nat) (f : Addr) (fd : FuncData) (ps : List Str) (sp : Sp) : Prop where
  len : ∀ vs H Q E, sp vs H Q E → vs.length = ps.length
  run : ∀ (A : Around) (outer : List Env) (s : Shared) (H : Hp) (args : Args) (us : List Value) (vs : List V) (Q : VK) (E : XK), A.guards = some [] → Room k A → Env0 P w K mg base A outer s H →
    BindsTo s fd args (ps.zip us) → Vals vs us → sp vs H Q E → codeAny (model P w) A (.call (.ref f) args) (CR CX outer P w H s Q E) s
section
variable {P : Program} {w : World} {K : PySem.W.Frag} {mg : Str → Option Value} {base : Heap} {CX : CXT}
theorem FnG.of {k : Nat} {f : Addr} {fd : FuncData} {ps : List Str} {sp : Sp} (F : FnOk P w K mg base CX k f fd ps sp) : FnG P w K mg base CX k f fd ps sp :=
  ⟨F.len, fun A outer s H args us vs Q E _ r e b v h => F.run A outer s H args us vs Q E r e b v h⟩
/-- a def by its body; in the body nothing is being shown -/
theorem fnG_of {k : Nat} {f : Addr} {name qual : Str} {params : Arguments} {body : List Stmt} {scope : Scope} {dV kV doc pm cdv ct oc : Value} {an od : Option Addr} {osl : Array (Option Value)} {N ps : List Str} {sp : Sp}
    (lk : K.lookup f = some ⟨oc, od, .func (PySem.W.fnOf name qual params body scope dV kV doc pm an cdv ct), osl⟩) (cd : PySem.W.codeIn K cdv qual = true) (S : FnScope N ps scope) (len : ∀ vs H Q E, sp vs H Q E → vs.length = ps.length)
    (walk : ∀ (A : Around) (outer : List Env) (s : Shared) (H : Hp) (vs : List V) (Q : VK) (E : XK), A.guards = some [] → Room k (A.deeper (envOfC qual scope s.heap.objs.size f cdv)) → sp vs H Q E →
      ∃ t, PSs (cxOf CX P w K mg base N qual scope f cdv A outer s H E) body t ∧ t { nx := fun _ H' => Q .non H', rt := Q } (start N vs) H) :
    FnG P w K mg base CX (k + 1) f (PySem.W.fnOf name qual params body scope dV kV doc pm an cdv ct) ps sp := by
  refine ⟨len, fun A outer s H args us vs Q E hg room e0 bind rel want => ?_⟩
  have here : ∀ b o, base.get? b = some o → s.heap.get? b = some o := fun b o e => (e0.bs b o e).1
  have KX : K.In s.heap := e0.mod.kin.keeps here
  have lim : s.heap.NoLimit := e0.mod.nolimit.keeps here
  refine codeAny_call_function room.depth (KX _ _ lk) rfl S.co S.gen rfl (PySem.W.codeRec_of KX cd) (bind _ _ _ _ ?_)
  refine wpAny_newFunctionEnv_cells S.kind (fun ⟨n, v⟩ hy => ?_) fun env he s1 x => ?_
  · rcases S.par n (List.of_mem_zip hy).1 with z | z
    · exact .inl z
    · exact .inr ⟨z, PySem.W.cellsFrom_some _ _ _ (.inl z)⟩
  · subst he
    refine ⟨lim.keeps x.toInCall.keep, codeAny_func ?_⟩
    obtain ⟨t, ht, hq⟩ := walk A outer s H vs Q E hg (room.deeper _) want
    refine wpAny_mono (ht.run [] s1 (start N vs) H _ (inv_start S room.hd e0 (len _ _ _ _ want) rel x) hq) (fun fl s' hs => ?_) fun e s' hs => hs
    cases fl with
    | ret u =>
      obtain ⟨v, σ', H', J, rv, q⟩ := hs
      exact ⟨v, H', J.os, J.bare, J.base, J.hok, rv, q⟩
    | next =>
      obtain ⟨σ', H', J, q⟩ := hs
      exact ⟨V.non, H', J.os, J.bare, J.base, J.hok, rfl, q⟩
    | brk => exact (hs.choose_spec.choose_spec.2 : False).elim
    | cont => exact (hs.choose_spec.choose_spec.2 : False).elim
theorem FunG.ok {x qual : Str} {st : Stmt} {f : Addr} {fd : FuncData} {N ps : List Str} {k : Nat} {sp : Sp} (F : Fun K x qual st f fd) (S : FnScope N ps (defScope st)) (len : ∀ vs H Q E, sp vs H Q E → vs.length = ps.length)
    (walk : ∀ (cdv : Value) (A : Around) (outer : List Env) (s : Shared) (H : Hp) (vs : List V) (Q : VK) (E : XK), A.guards = some [] → Room k (A.deeper (envOfC qual (defScope st) s.heap.objs.size f cdv)) → sp vs H Q E →
      ∃ t, PSs (cxOf CX0 P w K mg base N qual (defScope st) f cdv A outer s H E).nox (defBody st) t ∧ t { nx := fun _ H' => Q .non H', rt := Q } (start N vs) H) : FnG P w K mg base CX0 (k + 1) f fd ps sp := by
  obtain ⟨oc, od, kV, doc, pm, an, cdv, ct, osl, rfl, lk, cd⟩ := F.ex
  refine fnG_of lk cd S len fun A outer s H vs Q E hg hr want => ?_
  obtain ⟨t, h, q⟩ := walk cdv A outer s H vs Q E hg hr want
  exact ⟨t, h.nox, q⟩
end
section
variable {X : Cx} {CX : CXT} {k : Nat} {f : Addr} {fd : FuncData} {ps : List Str} {sp : Sp} {dvs : List V} {ds : List Value} {E : XK} {x : Str} {p pos : Pos} {e : Expr} {es : List Expr} {t : TA}
/-- a call of such a def where nothing is being shown -/
theorem pe_callG (F : FnG X.prog X.w X.K X.mg X.base CX k f fd ps sp) (hG : X.A.guards = some []) (hr : Room k X.A) (hg : Gl X x) (hm : X.mg x = some (.ref f)) (hk : PySem.W.keepIn X.K (.ref f) = true) (hb : Binds X.K fd ps ds) (hd : Vals dvs ds) (hx : Passes CX X E)
    (ha : PA X (e :: es) t) (hdb : (x == ("__debug__" : Str)) = false := by decide) (he : starEach (e :: es) X.env = (false, eval e X.env) :: starEach es X.env := by rfl) (hpl : (backTo pos (starEach es X.env)).any (·.1) = false := by rfl) :
    PE X (.Call (.Name x p) (e :: es) [] pos) (tCall sp dvs E t) := by
  refine ⟨fun pins s σ H Q I h => wpAny_Call_Name_kw (ld_glob I hg hm (PySem.W.callWith_K (h₀ := X.base) I.ok.mod.kin hk (thn (ha.run pos pins s σ H _ I h) fun us s1 ⟨vs, H1, I1, r, q⟩ => ⟨I1.kIn, ?_⟩) he hpl) hdb)⟩
  have r2 : Vals (vs ++ dvs) (us ++ ds) := r.append hd
  have hl : (us ++ ds).length = ps.length := by rw [← r2.length]; exact F.len _ _ _ _ q
  refine wpAny_call (codeAny_mono (F.run X.A X.stack s1 H1 ⟨us, []⟩ (us ++ ds) (vs ++ dvs) Q E hG hr I1.env0 (hb s1 us I1.kIn hl) r2 q) fun rr s' hq => ?_)
  rcases rr with ee | fl
  · exact hx pins σ H1 s1 ee s' I1 hq
  · cases fl with
    | ret u => exact I1.after hq
    | next => exact hq.elim
    | brk => exact hq.elim
    | cont => exact hq.elim
end
/-! ### the end: the law itself, such a def -/
theorem script_gone {P : Program} {w : World} {K : PySem.W.Frag} {h : Heap} {a : Addr} {xs : List Value} {ns : List Int} (KX : K.In h) (ha : h.get? a = some { cls := .type "list", data := .seq xs.toArray }) (hi : IntsAre xs ns) (hl : ns.length ≤ sizeLine) :
    ∃ H : Hp, Only H ∧ SqL K H a (ns.map V.int) ∧ HOk P w H h ∧ (∀ b u, H b = some u → b = a ∧ K.lookup a = none) := by
  have rv := vals_ints hi
  cases hk : K.lookup a with
  | some o =>
    obtain rfl := Option.some.inj ((KX a o hk).symm.trans ha)
    refine ⟨fun _ => none, fun _ => .inl rfl, .inr ⟨_, xs.toArray, _, hk, rfl, rfl, rfl, by rw [List.size_toArray, hi.length]; exact hl, by simpa using rv⟩, fun b u z => (by have z' : (none : Option HO) = some u := z; cases z'), fun b u z => (by have z' : (none : Option HO) = some u := z; cases z')⟩
  | none =>
    have on : ∀ b u, (if b = a then some (HO.frz { cls := .type "list", data := .seq xs.toArray } (.lst (ns.map V.int))) else none) = some u → b = a ∧ u = HO.frz { cls := .type "list", data := .seq xs.toArray } (.lst (ns.map V.int)) := fun b u z => by
      split at z
      · exact ⟨by assumption, (Option.some.inj z).symm⟩
      · cases z
    refine ⟨fun b => if b = a then some (.frz { cls := .type "list", data := .seq xs.toArray } (.lst (ns.map V.int))) else none, fun b => ?_, .inl (.inr ⟨_, if_pos rfl⟩), fun b u z => ?_, fun b u z => ⟨(on b u z).1, rfl⟩⟩
    · by_cases hb : b = a
      · exact .inr ⟨_, _, if_pos hb⟩
      · exact .inl (if_neg hb)
    · obtain ⟨rfl, rfl⟩ := on b u z
      exact ⟨ha, by rw [List.length_map]; exact hl, xs, _, rv, ha⟩
theorem endG {l : PySem.W.OpenLaw} {n k : Nat} {q : Program} {loose : List Str} {XP : (Str → Option Value) → Heap → Prop} {YP : World → Heap → Prop} {d : DefRec} {K : Params → PySem.W.Frag} {sp : PySem.W.Frag → Sp} {x : Str}
    (hn : l.most = some n) (hn2 : n ≤ sizeLine) (hdf : d.params.defaults = []) (hr : Room k callerA) (hY : ∀ (w : World) (h : Heap), YP w h → (K w.params).In h)
    (F : ∀ (w : World) (mg : Str → Option Value) (fa : Addr) (h : Heap), (K w.params).In h → h.Ns mainGlobals mg → mg d.name = some (.ref fa) →
      ∃ fd : FuncData, (∀ (s : Shared) (u : Value), BindsTo s fd ⟨[u], []⟩ [(x, u)]) ∧ ∀ base : Heap, (K w.params).In base → base.Ns mainGlobals mg → FnG l.prog w (K w.params) mg base CX0 k fa fd [x] (sp (K w.params)))
    (hsp : ∀ (K : PySem.W.Frag) (H : Hp) (a : Addr) (ns : List Int), ns.length ≤ n → SqL K H a (ns.map V.int) → sp K [.ref a] H (fun v _ => v = .bl true) fun _ _ _ => False) :
    PySem.W.WalkO q loose XP YP l.row.toRowW d [] (fun f vs => PySem.call f vs) := by
  refine Att.attach_call hn hdf fun w s₀ s1 mg mb fa o pm cd doc a vs ns G Y ho hd hcd hmg hobj hints hlen hg => ?_
  have KX := hY w _ Y
  obtain ⟨fd, hb, hF⟩ := F w mg fa _ KX G.T.g hmg
  have small : ns.length ≤ sizeLine := Nat.le_trans hlen hn2
  obtain ⟨H, only, seen, hok, dom⟩ := script_gone (P := l.prog) (w := w) KX hobj hints small
  -- the heap without the script
  have free : ∀ {b : Addr} {o : Obj}, s1.heap.get? b = some o → (∀ xs k, o.data ≠ .seq xs k) → H b = none := fun {b o} e ne => by
    cases q : H b with
    | none => rfl
    | some u =>
      obtain ⟨rfl, _⟩ := dom b u q
      rw [hobj] at e
      cases e
      exact (ne _ _ rfl).elim
  have ns : ∀ {b : Addr} {m : Str → Option Value}, s1.heap.Ns b m → (hidT s1.heap H).Ns b m := fun {b m} ⟨o, es, ep, e, dd, r⟩ => ⟨o, es, ep, hidT_get e (free e (by rw [dd]; intro _ _ z; cases z)), dd, r⟩
  have inK : (K w.params).In (hidT s1.heap H) := fun b o e => hidT_get (KX b o e) (by
    cases q : H b with
    | none => rfl
    | some u =>
      obtain ⟨rfl, z⟩ := dom b u q
      rw [z] at e
      cases e)
  have M : Mod (K w.params) mg (hidT s1.heap H) := ⟨inK, ns G.T.g, ⟨mb, ns G.T.b, G.T.builtins⟩, let ⟨mc, h1, h2⟩ := G.T.nolimit; ⟨mc, ns h1, h2⟩⟩
  have e0 : Env0 l.prog w (K w.params) mg (hidT s1.heap H) callerA [] s1 H := ⟨rfl, M, fun b o e => of_hidT e, Nat.le_of_eq (hidT_size _ _), trivial, fun b z => absurd (show b ∈ ([] : List Addr) from z) (by simp), hok, AllBare.of_eq hg⟩
  refine codeAny_mono ((hF _ inK (ns G.T.g)).run callerA [] s1 H ⟨[.ref a], []⟩ [.ref a] [.ref a] _ _ rfl hr e0 (hb s1 (.ref a)) (.cons rfl .nil) (hsp _ H a _ hlen seen)) fun r s' h => ?_
  rcases r with e | fl
  · exact (h : False).elim
  · cases fl with
    | next => exact (h : False).elim
    | brk => exact (h : False).elim
    | cont => exact (h : False).elim
    | ret u =>
      obtain ⟨v, H', os, bare, un, hok', rv, qv⟩ := h
      obtain rfl : v = .bl true := qv
      obtain rfl : u = Value.bool true := rv
      refine ⟨rfl, OldK.of_keep fun b o e => ?_, os, bare⟩
      cases z : H b with
      | none => exact un.keep b o e z (fun z => absurd (show b ∈ ([] : List Addr) from z) (by simp)) (by simp)
      | some u =>
        obtain ⟨ob, ys, z2⟩ : ∃ ob ys, H b = some (.frz ob (.lst ys)) := by
          rcases only b with z3 | z3
          · rw [z3] at z; cases z
          · exact z3
        obtain ⟨g1, _⟩ := hok b _ z2
        obtain ⟨g2, _⟩ := hok' b _ (un.frzs b ob _ z2)
        rw [e] at g1
        cases g1
        exact g2
end Nv
set_option Elab.async false
set_option linter.all false
set_option maxRecDepth 100000
namespace Nv
open PySem PySem.Spec PyProof.Rows L2
/-! ### the layer's rules with the written part named (within a comprehension's block) -/
section
variable {X : Cx} (K : PySem.W.Frag)
theorem ix_listK (h : X.K = K := by rfl) : IxR X (rIxL K) := by subst h; exact ix_list
theorem ix_tupK (h : X.K = K := by rfl) : IxR X (rIxT K) := by subst h; exact ix_tup
theorem op_in_seqK (h : X.K = K := by rfl) : OpR X (compareOp .In) (rIn K false) := by subst h; exact op_in_seq
theorem op_notIn_seqK (h : X.K = K := by rfl) : OpR X (compareOp .NotIn) (rIn K true) := by subst h; exact op_notIn_seq
def rLen (K : PySem.W.Frag) : List V → Hp → VK → Prop := fun xs H Q => ∃ p ys, xs = [.ref p] ∧ (SqL K H p ys ∨ SqT K H p ys) ∧ Q (.int ys.length) H
theorem call_len_seqK (h : X.K = K := by rfl) : CallR X (.builtin "len") (rLen K) := by subst h; exact call_len_seq
theorem mt_indexK (h : X.K = K := by rfl) : MtR X "list.index" (rIndex K) := by subst h; exact mt_index
theorem call_tupZK (h : X.K = K := by rfl) : CallR X (.type "tuple") (rTupZ K) := by subst h; exact call_tupZ
def rListOf (K : PySem.W.Frag) : List V → Hp → VK → Prop := fun xs H Q => ∃ p ys, xs = [.ref p] ∧ (SqL K H p ys ∨ SqT K H p ys) ∧ ∀ l, H l = none → Q (.ref l) (upd H l (.lst ys))
theorem call_list_ofK (h : X.K = K := by rfl) : CallR X (.type "list") (rListOf K) := by subst h; exact call_list_of
theorem call_dictTK (h : X.K = K := by rfl) (hc : X.calm = true := by rfl) : CallR X (.type "dict") (rDictT K) := by subst h; exact call_dictT hc
theorem cr_setIK (w : World) (h : X.K = K := by rfl) (h2 : X.w = w := by rfl) (hc : X.calm = true := by rfl) : CallR X (.type "set") (rSetI K w) := by subst h h2; exact cr_setI hc
theorem cr_sortedSetK (w : World) (h2 : X.w = w := by rfl) (hc : X.calm = true := by rfl) : CallR X (.builtin "sorted") (rSortedSet w) := by subst h2; exact cr_sortedSet hc
theorem cr_sortedK (h : X.K = K := by rfl) : CallR X (.builtin "sorted") (rSorted K) := by subst h; exact cr_sorted
theorem cr_anyK (h : X.K = K := by rfl) (hc : X.calm = true := by rfl) : CallR X (.builtin "any") (rAny K) := by subst h; exact cr_any hc
theorem cr_sumK (h : X.K = K := by rfl) (hc : X.calm = true := by rfl) : CallR X (.builtin "sum") (rSum K) := by subst h; exact cr_sum hc
theorem call_isiK' (h : X.K = K := by rfl) : CallR X (.builtin "isinstance") (rIsi K) := by subst h; exact call_isi
theorem op_eqDK (hu : X.A.units + 64 < cLine) (h : X.K = K := by rfl) : OpR X (compareOp .Eq) (rEqD K) := by subst h; exact op_eqD hu
theorem op_neDK (hu : X.A.units + 64 < cLine) (h : X.K = K := by rfl) : OpR X (compareOp .NotEq) (rNeD K) := by subst h; exact op_neD hu
theorem sl_listK (h : X.K = K := by rfl) : SlR X (rSlL K) := by subst h; exact sl_list
theorem call_reprDK (hu : X.A.units + 64 < cLine) (hg : X.A.guards = some []) (h : X.K = K := by rfl) : CallR X (.builtin "repr") (rRepr K) := by subst h; exact call_reprD hu hg
theorem pi_listK {tg l : Expr} {tl : TE} (hl : PE X l tl) (h : X.K = K := by rfl) : PI X tg l (iList K tl) := by subst h; exact pi_list hl
theorem pi_tupK {tg l : Expr} {tl : TE} (hl : PE X l tl) (h : X.K = K := by rfl) : PI X tg l (iTup K tl) := by subst h; exact pi_tup hl
theorem pg_tupK {es : List Expr} {k : Nat} {t : TGs} {n : Nat} {pos : Pos} (hc : X.calm = true) (hh : PGs X es t) (h : X.K = K := by rfl) (hn : (assignEach es X.env).length = n := by rfl) (hst : (assignEach es X.env).findIdx? (·.1) = none := by rfl) :
    PG X (.Tuple es k pos) (gTup K n t) := by subst h; exact pg_tup hc hh hn hst
theorem pe_bmK {T id : String} {name : Str} {o e : Expr} {es : List Expr} {to : TE} {t : TA} {r : V → List V → Hp → VK → Prop} {apos cpos : Pos} (pa : PlainAttrs T) (slot : Slot T name id) (hty : typeOf (.builtin id) = pure (.type "method_descriptor")) (hm : MtR X id r) (ho : PE X o to) (ha : PA X (e :: es) t)
    (h : X.K = K := by rfl) (hbase : attributeBase o name X.env (eval o X.env) = eval o X.env := by rfl)
    (hfew : ((backTo cpos (starEach (e :: es) X.env)).all (fun x => !x.1) && (backToKw cpos (keywordEach [] X.env)).all (fun x => x.1.isSome)
      && decide ((e :: es).length + ([] : List Keyword).length + (if ([] : List Keyword).isEmpty then 0 else 1) < 30)) = true := by rfl)
    (hline : (apos.endLine == cpos.line) = true := by rfl) (hs : starEach (e :: es) X.env = (false, eval e X.env) :: starEach es X.env := by rfl) (hplain : (backTo cpos (starEach es X.env)).any (·.1) = false := by rfl) :
    PE X (.Call (.Attribute o name apos) (e :: es) [] cpos) (tBM K T r to t) := by subst h; exact pe_bm pa slot hty hm ho ha hbase hfew hline hs hplain
end
end Nv
set_option Elab.async false
set_option linter.all false
set_option maxRecDepth 100000
namespace Nv
open PySem PySem.Spec PyProof.Rows L2
open AutoSeq1 (wpAny_loadPart')
/-! ### enumerate(t), t a tuple -/
abbrev tupIt (t : Addr) : Obj := { cls := .type "tuple_iterator", data := .fields #[.ref t, .int 0 0] }
abbrev enumOb (i : Addr) : Obj := { cls := .type "enumerate", data := .fields #[.none, .bool false, .ref i, rawInt 0, .none, .none] }
theorem new_enumT (t : Addr) (xs : Array Value) (n : Nat) (dct : Option Addr) (sl : Array (Option Value)) :
    Meets (Builtin.«enumerate.__new__» ⟨[.type "enumerate", .ref t], []⟩) (fun _ R s => s.heap.get? t = some { cls := .type "tuple", dict := dct, data := .seq xs n, slots := sl } ∧
      R (.ok (.ret (.ref (s.heap.push (tupIt t)).objs.size))) { s with heap := (s.heap.push (tupIt t)).push (enumOb s.heap.objs.size) }) :=
  .of_wp fun prog w A R s h => by
    obtain ⟨hp, g, d, tk, os⟩ := s
    obtain ⟨ht, h⟩ := h
    have sub := sub_enumerate
    have hT : Heap.IsTuple (Shared.heap ⟨hp, g, d, tk, os⟩) t xs := ⟨_, ht, rfl, n, rfl⟩
    wp_walk using wpAny_loadPart' ht
    refine wpAny_stack_any fun st => wpAny_pure ?_
    split
    · rename_i c _ _ _ _ _
      cases (c == Value.type "enumerate")
      · wp_walk using wpAny_loadPart' ht, wpAny_pyIter_tuple hT
        exact ⟨_, rfl, h⟩
      · wp_walk using wpAny_loadPart' ht, wpAny_pyIter_tuple hT
        exact ⟨_, rfl, h⟩
    · wp_walk using wpAny_loadPart' ht, wpAny_pyIter_tuple hT
      exact ⟨_, rfl, h⟩
section
variable {prog : Program} {w : World} {A : Around} {E : Value → Shared → Prop} {s : Shared}
theorem call_enumT {t : Addr} {xs : Array Value} {Q : Value → Shared → Prop} (hT : s.heap.IsTuple t xs)
    (k : ∀ g, IsEnum g (s.heap.objs.size + 1) s.heap.objs.size 0 .none → g.IsTupleIter s.heap.objs.size t 0 → (∀ b o, s.heap.get? b = some o → g.get? b = some o) → Q (.ref (s.heap.objs.size + 1)) { s with heap := g }) :
    wpAny (model prog w) A (call (.type "enumerate") [.ref t]) Q E s := by
  obtain ⟨⟨c, dct, dt, sl⟩, ht, hc, n, hd⟩ := hT
  have hc2 : c = .type "tuple" := hc
  have hd2 : dt = .seq xs n := hd
  subst hc2 hd2
  refine callType_new F.called_enumerate (by decide) (F.typeCall_enumerate_1 _) (F.newCall_enumerate_1 _) (fun obj => F.args_object_init_2 obj _) F.entry_enumerate_new (new_enumT t xs n dct sl) ⟨ht, ?_⟩
  have sz : (s.heap.push (tupIt t)).objs.size = s.heap.objs.size + 1 := Heap.size_push ..
  have he := Heap.get?_push_size (s.heap.push (tupIt t)) (o := enumOb s.heap.objs.size) rfl
  rw [sz] at he
  show _ ∧ _
  rw [sz]
  exact ⟨⟨_, he, rfl⟩, k _ he ⟨_, Heap.get?_push_of_some _ (Heap.get?_push_size _ rfl), rfl, rfl⟩ fun b o x => Heap.get?_push_of_some _ (Heap.get?_push_of_some _ x)⟩
end
/-- the tuple at a, each item in a new pair with its number -/
def IteT (K : PySem.W.Frag) (a : Addr) : It :=
  ⟨fun i H => ∃ (xs : List V) (x : V), SqT K H a xs ∧ xs[i]? = some x, fun i H v H' => ∃ T x, v = .ref T ∧ H T = none ∧ H' = upd H T (.tup [.int (i : Nat), x]) ∧ ∀ xs, SqT K H a xs → xs[i]? = some x, fun i H => ∃ xs : List V, SqT K H a xs ∧ xs.length = i⟩
theorem turn_enumT {P : Program} {w : World} {K : PySem.W.Frag} {elts : List Expr} {kk : Nat} {tpos : Pos} (a e it : Addr) :
    Turn P w K (.Tuple elts kk tpos) (IteT K a) [e, it] e (fun i h => (∃ old, IsEnum h e it ((i : Nat) : Int) old) ∧ h.IsTupleIter it a i ∧ e ≠ it) where
  mem := by simp
  obj := fun i h st b hb => by
    obtain ⟨⟨old, he⟩, ⟨o, ho, hc, hd⟩, _⟩ := st
    rcases List.mem_cons.mp hb with z | z
    · rw [z]; exact ⟨_, he, fun v q => nomatch q⟩
    · rw [List.mem_singleton.mp z]; exact ⟨o, ho, fun v q => by rw [hd] at q; cases q⟩
  keep := fun i h h' st k => let ⟨⟨old, he⟩, hi, hne⟩ := st; ⟨⟨old, k e (by simp) _ he⟩, hi.at fun o q => k it (by simp) o q, hne⟩
  item := by
    intro X hP hw hK hc i pins s σ H E I hf st hg
    subst hP hw hK
    obtain ⟨⟨old, he⟩, hit, hne⟩ := st
    obtain ⟨xs, x, hq, hx⟩ := hg
    obtain ⟨its, rv, p, hz⟩ := I.tuple hq
    obtain ⟨u, hu, ru⟩ := rv.get hx
    have hel : e < s.heap.objs.size := Heap.lt_size he
    have hil : it < s.heap.objs.size := by obtain ⟨_, q, _⟩ := hit; exact Heap.lt_size q
    have hIT : s.heap.IsTuple a its.toArray := p
    have hail : a ≠ it := fun z => by
      obtain ⟨o, q1, q2, _⟩ := hit
      obtain ⟨o', q3, q4, _⟩ := hIT
      rw [z, q1] at q3
      cases q3
      rw [q2] at q4
      exact absurd q4 (by decide)
    have hae : e ∉ [it, a] := fun z => by
      rcases List.mem_cons.mp z with z | z
      · exact hne z
      · have z := List.mem_singleton.mp z
        obtain ⟨o', q3, q4, _⟩ := hIT
        have he' : s.heap.get? e = some _ := he
        rw [z, q3] at he'
        cases he'
        exact absurd q4 (show ¬ Value.type "enumerate" = Value.type "tuple" by decide)
    have D := Draws.tuple (prog := X.prog) (w := X.w) (A := X.A.in1) (I.ok.hd hc) it a hail its.toArray
    have hil2 : i < its.toArray.size := by
      have := (List.getElem?_eq_some_iff.mp hu).1
      simpa using this
    refine wpAny_pyNext_enum_itemD D he ⟨hit, hIT⟩ hil2 hne hae fun y g tk hy ho hst hT hsz hk => ?_
    have hyu : y = u := by
      have : its.toArray[i]? = some u := by simpa using hu
      rw [this] at hy
      exact (Option.some.inj hy).symm
    subst hyu
    refine ⟨_, rfl, wpAny_letOwnedTupleGo_enum (s := { s with heap := g, toks := tk + 1 }) ho fun g2 he' sb => ?_⟩
    have hT2 : g2.get? s.heap.objs.size = some { cls := .type "tuple", data := .seq #[.int i tk, y] } := (sb.2 _ (Nat.ne_of_gt hel)).trans hT
    have new : ObjOk X.prog X.w (upd H s.heap.objs.size (.tup [.int (i : Nat), x])) g2 s.heap.objs.size (.tup [.int (i : Nat), x]) :=
      ⟨by show 2 ≤ sizeLine; decide, [.int i tk, y], .cons ⟨_, rfl⟩ (.cons ru .nil), ⟨_, hT2, rfl, _, rfl⟩⟩
    have I1 : Inv X pins σ (upd H s.heap.objs.size (.tup [.int (i : Nat), x])) { s with heap := g2, toks := tk + 1 } :=
      I.turnedNew (ch := [e, it]) (fun b ob hb q => (sb.2 b (fun z => hb (by simp [z]))).trans (hk b ob (fun z => hb (by simp [z])) (fun z => hb (by simp [z])) q)) hf (Nat.le_refl _) new
    refine ⟨.ref s.heap.objs.size, _, I1, rfl, ⟨_, x, rfl, I.hok.fresh (Nat.le_refl _), rfl, fun ys hy => by rw [I.tuple_inj hy hq]; exact hx⟩, ⟨⟨y, ?_⟩, hst.1.at fun o q => (sb.2 it (Ne.symm hne)).trans q, hne⟩, fun b hb => ?_⟩
    · have e1 : ((i + 1 : Nat) : Int) = (i : Int) + 1 := by omega
      rw [e1]
      exact he'
    · have hb' : b < s.heap.objs.size := by
        rcases List.mem_cons.mp hb with z | z
        · rw [z]; exact hel
        · rw [List.mem_singleton.mp z]; exact hil
      rw [upd_ne (Nat.ne_of_lt hb')]
      exact (hf b hb).1
  done := by
    intro X hP hw hK hc i pins s σ H E I hf st hg
    subst hP hw hK
    obtain ⟨⟨old, he⟩, hit, hne⟩ := st
    obtain ⟨xs, hq, hx⟩ := hg
    obtain ⟨its, rv, p, hz⟩ := I.tuple hq
    have hIT : s.heap.IsTuple a its.toArray := p
    have hail : a ≠ it := fun z => by
      obtain ⟨o, q1, q2, _⟩ := hit
      obtain ⟨o', q3, q4, _⟩ := hIT
      rw [z, q1] at q3
      cases q3
      rw [q2] at q4
      exact absurd q4 (by decide)
    obtain ⟨f0, f1, f2, f3, f4, f5⟩ := hf it (by simp)
    have hl := rv.length
    have D := Draws.tuple (prog := X.prog) (w := X.w) (A := X.A.in1) (I.ok.hd hc) it a hail its.toArray
    have ei : i = its.toArray.size := by simp; omega
    rw [ei] at hit
    exact wpAny_pyNext_enum_endD D he ⟨hit, hIT⟩ fun g eb => ⟨rfl, I.turned (t' := s.toks) (fun b o hb q => eb b o hb q) f0 f1 f3 f4 f5⟩
  self := fun A i s Q E st h => let ⟨⟨_, he⟩, _⟩ := st; wpAny_pyIter_enum he h
def iEnumT (K : PySem.W.Frag) (ta : TA) : TI := fun σ H R => ta σ H fun vs H1 => ∃ a xs, vs = [.ref a] ∧ SqT K H1 a xs ∧ R (IteT K a) H1
theorem pi_enumT {X : Cx} {e : Expr} {ta : TA} {p pos tpos : Pos} {elts : List Expr} {kk : Nat} (hg : Gl X "enumerate") (hm : X.mg "enumerate" = none) (ha : PA X [e] ta) (hs : starEach [e] X.env = [(false, eval e X.env)] := by rfl) :
    PI X (.Tuple elts kk tpos) (.Call (.Name "enumerate" p) [e] [] pos) (iEnumT X.K ta) := by
  refine ⟨fun pins s σ H R I h => Call_ (ld_blt I hg hm boot_enumerate (PyProof.Rows.callWith_type1 (thn (ha.run pos pins s σ H _ I h) fun us s1 ⟨vs, H1, I1, r1, q1⟩ => ?_) hs rfl))⟩
  obtain ⟨a, xs, rfl, hq, q⟩ := q1
  obtain ⟨u, rfl, rx⟩ := vals1 r1
  cases rx
  obtain ⟨its, rv, p', hz⟩ := I1.tuple hq
  refine call_enumT (xs := its.toArray) p' fun g he hit hk => wpAny_pyIter_enum he ?_
  have I2 : Inv X pins σ H1 { s1 with heap := g } := I1.kept (t' := s1.toks) hk
  refine ⟨s1.heap.objs.size + 1, [s1.heap.objs.size + 1, s1.heap.objs.size], _, _, H1, rfl, I2, turn_enumT a (s1.heap.objs.size + 1) s1.heap.objs.size, ⟨⟨.none, he⟩, hit, Nat.succ_ne_self _⟩, fun b hb => ?_, q⟩
  have hle : s1.heap.objs.size ≤ b := by
    rcases List.mem_cons.mp hb with z | z
    · rw [z]; exact Nat.le_add_right _ _
    · rw [List.mem_singleton.mp z]; exact Nat.le_refl _
  exact I1.fpOk hle (I1.hok.fresh hle)
theorem walk_enumT {K : PySem.W.Frag} {a : Addr} {xs : List V} : Walk (IteT K a) xs.length (fun H => SqT K H a xs) (YPair (fun i => some (.int (i : Nat))) (fun i => xs[i]?)) where
  goes := fun i H hi h => ⟨xs, xs[i], h, List.getElem?_eq_getElem hi⟩
  stops := fun H h => ⟨xs, h, rfl⟩
  yields := fun i H x H' _ h y => by
    obtain ⟨T, z, e1, e2, e3, e4⟩ := y
    exact ⟨T, .int (i : Nat), z, e1, e2, e3, rfl, e4 xs h⟩
end Nv
set_option Elab.async false
set_option linter.all false
set_option maxRecDepth 100000
/-! several clauses 'except X as n', all of one name n (slot i) -/
namespace Nv
open PySem PySem.Spec PyProof.Rows L2
abbrev Cl := Value × (Addr → Value → Option Addr → TS)
/-- behind the suite the slot is empty -/
abbrev dropS (i : Nat) (D : Ends) : Ends := { nx := fun σ H => D.nx (σ.set i none) H, rt := D.rt, bk := fun σ H => D.bk (σ.set i none) H, ct := fun σ H => D.ct (σ.set i none) H }
def wAll (K : PySem.W.Frag) (Wout : WX) (D : Ends) (i : Nat) : List Cl → WX
  | [] => Wout
  | p :: r => fun cls d σ H => ∃ yes, PySem.W.exmOne K cls p.1 = some yes ∧ (yes = true → ∀ a, H a = none → p.2 a cls d (dropS i D) (σ.set i (some (.ref a))) H) ∧ (yes = false → wAll K Wout D i r cls d σ H)
/-- the clauses, each with its suite's reading -/
inductive Cls (X : Cx) (n : Str) : List ExceptHandler → List Cl → Prop
  | none : Cls X n [] []
  | one {x : Str} {c : Value} {ts : Addr → Value → Option Addr → TS} {st : Stmt} {more : List Stmt} {np hp : Pos} {hs : List ExceptHandler} {l : List Cl} (nm : Names X x c)
      (su : ∀ (a : Addr) (oe : Obj) (cls : Value) (d : Option Addr) (pn : List (Addr × Obj)), Zc cls d oe → (∃ vs, oe.data = .fields vs) → PSs (X.suite a ((a, oe) :: pn)) (st :: more) (ts a cls d)) (rest : Cls X n hs l) :
      Cls X n (.ExceptHandler (some (.Name x np)) (some n) (st :: more) hp :: hs) ((c, ts) :: l)
section
variable {X : Cx} {n : Str} {i : Nat} {Wout : WX} {D : Ends} {pins : List (Addr × Obj)} {σ : L2.St} {H : Hp} {B : Heap} {a : Addr} {cls : Value} {d : Option Addr}
/-- the clauses looked at one after the other; the exception at a flies over this frame in the heap h3 -/
theorem clauses_run (hf : X.env.frame = some X.env.locals) (hN : X.N.Nodup) (hi : X.N[i]? = some n) (hln : X.env.kindOf n = some .local) (tk : Takes X Wout) {s' : Shared} {h3 : Heap} (ok : X.Ok)
    (na : H a = none) (nL : a ≠ X.env.locals) (nF : a ∉ X.fs) (here : Inv X pins σ H { s' with heap := h3 })
    (land : ∀ h4, HandSPX.FlyingZ B (X.env :: X.outer) a (Zc cls d) h4 → h3.UpToSlots h4 → Inv X pins σ H { s' with heap := h4 }) (fly : HandSPX.FlyingZ B (X.env :: X.outer) a (Zc cls d) h3)
    (out : Wout cls d σ H → ∀ h4, HandSPX.HeldZ B (X.env :: X.outer) a (Zc cls d) X.env.locals h4 → h3.UpToSlots h4 → XE X Wout (.ref a) { s' with heap := h4 }) :
    ∀ {hds : List ExceptHandler} {l : List Cl}, Cls X n hds l → wAll X.K Wout D i l cls d σ H → wpAny (model X.prog X.w) X.A (handleBy (.ref a) X.env hds) (SP X pins D) X.xe { s' with heap := h3 } := by
  intro hds l hc
  obtain ⟨oe, vs, he, hz, hd⟩ := fly.there
  induction hc with
  | none =>
    intro w
    obtain ⟨_, _, _, _, vs2, T, _, _, he2, _, hd2, h1, _⟩ := id fly
    refine wpAny_handleBy_nil ?_
    unfold PySem.passOn
    refine wpAny_bind (wpAny_field he2 hd2 h1 ?_)
    rw [if_neg (by simp)]
    have leave : wpAny (model X.prog X.w) X.A (setFlight (.ref a) X.env.frame) (fun _ s4 => wpAny (model X.prog X.w) X.A (throw (.ref a) : Sem Flow) (SP X pins D) X.xe s4) X.xe { s' with heap := h3 } := by
      rw [hf]
      exact HandSPX.setFlight_upZ fly fun h4 held up4 => wpAny_throw (tk _ _ (out w h4 held up4))
    first
      | exact wpAny_bind leave
      | exact wpAny_bind (wpAny_pure (wpAny_bind leave))
  | @one x c ts st more np hp hs l nm su rest ih =>
    rintro ⟨yes, hy, w1, w2⟩
    have S3 := here.suite he hd na nL nF
    have cl : PySem.W.Looks (model X.prog X.w) h3 (typeOf (.ref a)) cls := fun A Q E s k q => wpAny_typeOf_ref (k _ _ he) (by rw [hz.1]; exact q)
    refine wpAny_handleBy_cons (codeAny_handlers_test ?_) (fun q => by cases q)
    have named : ∀ {Q E : Value → Shared → Prop}, Q c { s' with heap := h3 } → wpAny (model X.prog X.w) (X.A.mark (some (.ref a))) (eval (.Name x np) X.env) Q E { s' with heap := h3 } := fun {Q E} q => by
      obtain ⟨hg, hdb, hm | ⟨hm, hv, hn⟩⟩ := nm
      · exact ld_glob (X := X.suite a ((a, oe) :: (X.pn ++ pins))) S3 hg hm q hdb
      · exact ld_blt (X := X.suite a ((a, oe) :: (X.pn ++ pins))) S3 hg hm hv q hn hdb
    refine named ((PySem.W.exm_one (M := model X.prog X.w) here.kIn cl hy).here ?_)
    cases yes with
    | false => exact ih (w2 rfl)
    | true =>
      refine codeAny_handlers_suite_as (HandSPX.lands_againZ fly fun h4 fly4 up4 => ?_)
      have J4 := land h4 fly4 up4
      obtain ⟨oe4, vs4, he4, hz4, hd4⟩ := fly4.there
      refine store_ok (X := X.suite a ((a, oe4) :: (X.pn ++ pins))) (v := .ref a) (J4.suite he4 hd4 na nL nF) hN hi (.inl hln) rfl (fun s5 S5 => ?_) (.inr hln)
      have after : ∀ {s6 : Shared} {σ6 : L2.St} {H6 : Hp} {R : Shared → Prop}, Inv (X.suite a ((a, oe4) :: (X.pn ++ pins))) [] σ6 H6 s6 → (∀ s7, Inv X pins (σ6.set i none) H6 s7 → R s7) →
          wpAny (model X.prog X.w) X.A (do bindName X.env n .none; unbindBehindTheSuite X.env n hp) (fun _ s7 => R s7) X.xe s6 := fun {s6 σ6 H6 R} S6 hq => gone_ok (S6.unsuite ok) hN hi hln hq
      refine wpAny_mono ((su a oe4 cls d (X.pn ++ pins) hz4 ⟨_, hd4⟩).run [] s5 _ H _ S5 (w1 rfl a na)) (fun fl s6 hsp => ?_) (fun _ _ z => False.elim z)
      cases fl with
      | ret u =>
        obtain ⟨v, σ6, H6, S6, r, q⟩ := hsp
        exact after S6 fun s7 J7 => ⟨_, _, _, J7, r, q⟩
      | next =>
        obtain ⟨σ6, H6, S6, q⟩ := hsp
        exact after S6 fun s7 J7 => ⟨_, _, J7, q⟩
      | brk =>
        obtain ⟨σ6, H6, S6, q⟩ := hsp
        exact after S6 fun s7 J7 => ⟨_, _, J7, q⟩
      | cont =>
        obtain ⟨σ6, H6, S6, q⟩ := hsp
        exact after S6 fun s7 J7 => ⟨_, _, J7, q⟩
end
section
variable {X : Cx} {n : Str} {i : Nat} {body : List Stmt} {hd0 : ExceptHandler} {hds : List ExceptHandler} {l : List Cl} {pos : Pos} {tb : WX → TS} {Wout : WX}
theorem ps_try_all (hs : X.stack = X.env :: X.outer) (hf : X.env.frame = some X.env.locals) (hN : X.N.Nodup) (hi : X.N[i]? = some n) (hln : X.env.kindOf n = some .local) (tk : Takes X Wout)
    (hb : ∀ (W : WX) (pn : List (Addr × Obj)) (xe : Value → Shared → Prop), Takes (X.tr pn xe) W → PassesOwn (model X.prog X.w) X.A X.env xe → PSs (X.tr pn xe) body (tb W)) (hc : Cls X n (hd0 :: hds) l) :
    PS X (.Try body (hd0 :: hds) [] [] pos) (fun D σ H => tb (wAll X.K Wout D i l) D σ H) := by
  refine ⟨fun pins s σ H D I h => wpAny_Try_except ?_⟩
  have ok := I.ok
  have hfr : X.A.frames = some (X.env :: X.outer) := by rw [ok.frames, hs]
  have run := (hb (wAll X.K Wout D i l) (X.pn ++ pins) (fun e s₁ => wpAny (model X.prog X.w) X.A (noteFrame e X.env) (fun _ s₂ => wpAny (model X.prog X.w) X.A (setFlight e none) (fun _ s₃ => wpAny (model X.prog X.w) X.A (handleBy e X.env (hd0 :: hds)) (SP X pins D) X.xe s₃) X.xe s₂) X.xe s₁)
    (fun u s' xx => ?_) PassesOwn.looking).run [] s σ H D (I.toTry _) h
  · refine wpAny_mono run (fun fl s1 hsp => ?_) (fun e s1 he => he)
    cases fl with
    | ret u =>
      obtain ⟨v, σ', H', J, r, q⟩ := hsp
      exact ⟨v, σ', H', J.ofTry ok, r, q⟩
    | next =>
      obtain ⟨σ', H', J, q⟩ := hsp
      exact wpAny_execs_nil ⟨σ', H', J.ofTry ok, q⟩
    | brk =>
      obtain ⟨σ', H', J, q⟩ := hsp
      exact ⟨σ', H', J.ofTry ok, q⟩
    | cont =>
      obtain ⟨σ', H', J, q⟩ := hsp
      exact ⟨σ', H', J.ofTry ok, q⟩
  · obtain ⟨a, B, sI, _, σ', H', cls, d, rfl, J', nb, up, sky, na, os, ag, w⟩ := xx
    have J : Inv X pins σ' H' sI := J'.ofTry ok
    have sky' : Sky B (X.env :: X.outer) a (Zc cls d) X.env.locals s'.heap := by rw [← hs]; exact sky
    show wpAny (model X.prog X.w) X.A (noteFrame (.ref a) X.env) _ _ _
    refine Sky.land Zc.steady hfr hf sky' fun h3 fly up3 => ?_
    have land : ∀ h4, HandSPX.FlyingZ B (X.env :: X.outer) a (Zc cls d) h4 → h3.UpToSlots h4 → Inv X pins σ' H' { s' with heap := h4 } := fun h4 f4 u4 => J.landed nb f4.1 ((up.trans up3).trans u4) os ag
    have here : Inv X pins σ' H' { s' with heap := h3 } := J.landed nb fly.1 (up.trans up3) os ag
    obtain ⟨oe, vs, he, hz, hd⟩ := fly.there
    have nfr : a ∉ frs (X.env :: X.outer) := fun hm => by
      obtain ⟨_, o', e', no⟩ := fly.2.2.1.mem hm
      rw [he] at e'
      cases e'
      exact no _ hd
    have nL : a ≠ X.env.locals := fun z => nfr (List.mem_filterMap.mpr ⟨X.env, List.mem_cons_self, by rw [hf, z]⟩)
    have nF : a ∉ X.fs := fun hm => by
      obtain ⟨e, h1, h2⟩ := List.mem_filterMap.mp hm
      exact nfr (List.mem_filterMap.mpr ⟨e, List.mem_cons_of_mem _ h1, h2⟩)
    refine clauses_run hf hN hi hln tk ok na nL nF here land fly (fun wo h4 held u4 => ?_) hc w
    exact ⟨a, B, sI, pins, σ', H', cls, d, rfl, J, nb, (up.trans up3).trans u4, .inr (.inr (by rw [hs]; exact held)), na, os, ag, wo⟩
end
end Nv
set_option Elab.async false
set_option linter.all false
set_option maxRecDepth 100000
/-! own exceptions with two fields: what, and kind, the name of their class -/
namespace Nv
open PySem PySem.Spec PyProof.Rows L2
/-- what an exception tells of its class C and of the class's name -/
structure ExcN (K : PySem.W.Frag) (C : Addr) (nm : Str) : Prop where
  ga : PySem.W.findIn K (.ref C) "__getattribute__" = some (some (.builtin "BaseException.__getattribute__"))
  gg : PySem.W.findIn K (.ref C) "__getattr__" = some none
  exC : PySem.W.subIn K (.ref C) (.type "BaseException") = some true
  isc : PySem.W.isClsIn K C = true
  ca : PySem.W.findIn K (.ref C) "__class__" = some (some (.builtin "object.__class__"))
  cn : PySem.W.specialIn K (.builtin "object.__class__") "__get__" = some (some (.builtin "getset_descriptor.__get__"))
  ct : PySem.W.takesIn K (.builtin "object.__class__") = some true
  cm : PySem.W.mroIn K C (.type "object") = some true
  rd : PySem.W.readsIn K C (.type "type") = true
  fn : PySem.W.findCls K (.ref C) (.type "type") "__name__" = some (.get (.builtin "getset_descriptor.__get__") (.builtin "type.__name__") (.ref C) (.type "type"))
  sl : ∃ c d dt sl tk, K.lookup C = some ⟨c, d, dt, sl⟩ ∧ sl[2]? = some (some (.str nm tk))
  nk : PySem.W.findIn K (.ref C) "kind" = some none
section
open PySem.Calls Builtin.Getset_descriptor
variable {prog : Program} {w : World} {A : Around} {E : Value → Shared → Prop} {s : Shared} {K : PySem.W.Frag} {x D : Addr} {ox : Obj} {od : Option Obj} {nm : Str}
theorem exc_cls {expr : Bool} {Q : Value → Shared → Prop} (N : ExcN K D nm) (hf : PySem.W.findObj K D od "__class__" = some (.bind (.builtin "getset_descriptor.__get__") (.builtin "object.__class__")))
    (X : K.In s.heap) (I : PySem.W.InstAt s.heap x ox D od) (h : Q (.ref D) { s with toks := s.toks + 1 }) : wpAny (model prog w) A (getAttr (.ref x) "__class__" expr) Q E s := by
  obtain ⟨hp, g, d, t, os⟩ := s
  have L0 := I.type (M := model prog w)
  have L1 := PySem.W.looks_findIn (M := model prog w) X N.ga
  have L2 := PySem.W.looks_findIn (M := model prog w) X N.gg
  have L3 := PySem.W.looks_find (M := model prog w) X I hf
  have sub : PySem.W.Looks (model prog w) hp (isInstance (.ref x) (.type "BaseException")) true := L0.andThen (PySem.W.looks_subIn X N.exC)
  have hx0 : (expr && onTheHeap (Value.builtin "BaseException.__getattribute__")) = false := by cases expr <;> rfl
  have hx2 : (Value.builtin "BaseException.__getattribute__" == Value.builtin "object.__getattribute__") = false := by decide +kernel
  have hx1 : (onTheHeap (Value.ref D) && Value.builtin "BaseException.__getattribute__" == Value.builtin "object.__getattribute__") = false := by rw [hx2]; rfl
  unfold getAttr getAttrBy
  refine wpAny_bind (wpAny_mkText (wpAny_holding (wpAny_bind (L0.at (wpAny_bind (L1.at ?_))))))
  show wpAny _ _ (if (onTheHeap (Value.ref D) && Value.builtin "BaseException.__getattribute__" == Value.builtin "object.__getattribute__") = true then _ else _) _ _ _
  rw [hx1, if_neg Bool.false_ne_true]
  unfold getAttrByItsOwn hookBefore
  refine wpAny_bind ?_
  rw [if_pos (show onTheHeap (Value.ref D) = true from rfl)]
  refine L2.at ?_
  refine wpAny_bind (wpAny_attempt (wpAny_holding ?_))
  unfold callGetattribute
  rw [hx0, if_neg Bool.false_ne_true]
  unfold boundAndCalled
  rw [PySem.F.excAttr_ValueError.ga.bind (.ref x)]
  refine wpAny_bind (wpAny_pure ?_)
  show wpAny _ _ (call (.builtin "BaseException.__getattribute__") [.ref x, .str "__class__" t]) _ _ _
  refine wpAny_call (codeAny_call_builtin PySem.F.excAttr_ValueError.ga.plain PySem.F.entry_bexc_ga ?_)
  refine @PySem.W.check_slot (model prog w) _ _ ⟨hp, g, d, t + 1, os⟩ "BaseException.__getattribute__" "BaseException" "__getattribute__" (.ref x) [.str "__class__" t] [] _ (by decide +kernel) (by decide +kernel) sub (PySem.F.args_bexc_ga (.ref x) (.str "__class__" t)) ?_
  unfold Builtin.«object.__getattribute__»
  refine wpAny_bind (wpAny_of_eq (a := ((Value.ref x : Value), [Value.str "__class__" t])) (by first | rfl | (simp only [slotArgs]; rfl)) ?_)
  refine wpAny_bind (wpAny_pure (wpAny_bind (L0.at (wpAny_bind (L3.at ?_)))))
  show wpAny _ _ (holding [Value.builtin "object.__class__"] (call (.builtin "getset_descriptor.__get__") [.builtin "object.__class__", .ref x, .ref D]) >>= ret) _ _ _
  refine wpAny_bind (wpAny_holding (wpAny_call (PySem.W.class_get (s := ⟨hp, g, d, t + 1, os⟩) (ox := ox) (od := od) X I N.cm ?_)))
  refine wpAny_pure ?_
  show wpAny _ _ (handedOut (.ref D)) _ _ _
  rw [PySem.W.handedOut_of (v := .ref D) rfl]
  first
    | exact wpAny_pure (wpAny_pure h)
    | exact wpAny_pure h
    | exact wpAny_pure (wpAny_bind (wpAny_pure (wpAny_pure h)))
theorem cname_get {tp v : Value} {R : Result → Shared → Prop} (X : K.In s.heap) (ht : PySem.W.typeIn K (.ref D) = some (.type "type")) {c : Value} {dd : Option Addr} {dt : Data} {sl : Array (Option Value)} (hC : K.lookup D = some ⟨c, dd, dt, sl⟩) (hs : sl[2]? = some (some v))
    (h : R (.ok (.ret v)) s) : codeAny (model prog w) A (.call (.builtin "getset_descriptor.__get__") ⟨[.builtin "type.__name__", .ref D, tp], []⟩) R s := by
  obtain ⟨hh, g, dr, t, os⟩ := s
  have L0 : PySem.W.Looks (model prog w) hh (typeOf (.ref D)) (.type "type") := PySem.W.looks_typeIn X ht
  have L1 : PySem.W.Looks (model prog w) hh (isSubtype (.type "type") (.type "type")) true := PySem.W.Looks.of_pure (by rw [isSubtype_type]; kernel_rfl)
  have ho := X _ _ hC
  dsimp only at ho
  refine codeAny_call_builtin PySem.W.KF.slot_gs.plain PySem.W.KF.entry_gs (PySem.W.KF.slot_gs.check _ _ _ _ _ _ _ _ PySem.W.ktyn_type (PySem.W.KF.args_gs _ _ _) ?_)
  unfold Builtin.«getset_descriptor.__get__» descrGet
  rw [PySem.W.dga_obj]
  refine wpAny_bind (wpAny_pure ?_)
  unfold descrGetter descrCheckInstance descrNameAndClass isInstance
  simp only [PySem.W.ktyn_owner]
  repeat lk
  refine ⟨Code.quiet_builtin _ (by decide +kernel), codeAny_builtin PySem.W.ktyn_entry ?_⟩
  unfold Builtin.«type.__name__»
  dsimp only
  unfold Builtin.keptObject PySem.slotAt
  dsimp only
  refine wpAny_bind (wpAny_bind (wpAny_loadPart_at ho (wpAny_pure ?_)))
  dsimp only
  rw [hs]
  exact wpAny_pure h
theorem exc_name {expr : Bool} {Q : Value → Shared → Prop} (N : ExcN K D nm) (X : K.In s.heap) (h : ∀ tk, Q (.str nm tk) { s with toks := s.toks + 1 }) : wpAny (model prog w) A (getAttr (.ref D) "__name__" expr) Q E s := by
  obtain ⟨c, dd, dt, sl, tk, hC, hs⟩ := N.sl
  have rd := N.rd
  simp only [PySem.W.readsIn, Bool.and_eq_true, beq_iff_eq] at rd
  refine PySem.W.cls_read X N.rd N.fn ?_
  show wpAny _ _ (do ret (← holding [Value.builtin "type.__name__"] (call (.builtin "getset_descriptor.__get__") [.builtin "type.__name__", .ref D, .type "type"]))) _ _ _
  refine wpAny_bind (wpAny_holding (wpAny_call (cname_get (s := { s with toks := s.toks + 1 }) X rd.1.1.1.2 hC hs ?_)))
  exact wpAny_pure (PySem.W.handed_on rfl (h _))
end
/-- e.__class__.__name__, e an exception that is being made -/
def tKind (K : PySem.W.Frag) (te : TE) : TE := fun σ H Q => te σ H fun x H1 => ∃ (a C dx : Addr) (fs : List (Str × V)) (nm : Str), x = .ref a ∧ H1 a = some (exo a C (some dx)) ∧ H1 dx = some (exd dx fs) ∧ ExcN K C nm ∧ Q (.str nm) H1
theorem pe_kind {X : Cx} {e : Expr} {te : TE} {p pos : Pos} (he : PE X e te) (hb : attributeBase e "__class__" X.env (eval e X.env) = eval e X.env := by rfl)
    (hb2 : attributeBase (.Attribute e "__class__" p) "__name__" X.env (eval (.Attribute e "__class__" p) X.env) = eval (.Attribute e "__class__" p) X.env := by rfl) : PE X (.Attribute (.Attribute e "__class__" p) "__name__" pos) (tKind X.K te) := by
  refine ⟨fun pins s σ H Q I h => attr_of hb2 (attr_of hb (thn (he.run pins s σ H _ I h) ?_))⟩
  rintro u s1 ⟨x, H1, I1, rx, a, C, dx, fs, nm, rfl, ea, ed, N, q⟩
  obtain rfl : u = Value.ref a := rx
  obtain ⟨t1, ho⟩ := exo_at I1.hok ea
  obtain ⟨mA, ⟨od, es, ep, ho2, hr⟩, rel⟩ := exd_at I1.hok ed
  have J : PySem.W.InstAt s1.heap a { cls := .ref C, dict := some dx, data := .fields #[.ref t1, .none, .none, .none, .bool false, .none] } C (some od) := ⟨ho, rfl, rfl, ho2⟩
  refine exc_cls N (PySem.W.findObj_data N.isc N.ca N.cn N.ct) I1.kIn J ?_
  refine exc_name (s := { s1 with toks := s1.toks + 1 }) N I1.kIn fun tk => ?_
  exact ⟨.str nm, H1, (I1.tok _).tok _, ⟨tk, rfl⟩, q⟩
/-- a class of the program's exceptions, with the __init__ at fI -/
structure ExcC (K : PySem.W.Frag) (mg : Str → Option Value) (name : Str) (fI : Addr) where
  C : Addr
  g : mg name = some (.ref C)
  o : OexC K C
  i : PySem.W.findIn K (.ref C) "__init__" = some (some (.ref fI))
  ga : PySem.W.findIn K (.ref C) "__getattribute__" = some (some (.builtin "BaseException.__getattribute__"))
  gg : PySem.W.findIn K (.ref C) "__getattr__" = some none
  no : PySem.W.findIn K (.ref C) "what" = some none
  nn : ExcN K C name
  hd : PySem.W.hasDictIn K C = true
  isc : PySem.W.isClsIn K C = true
/-- does 'except B' take an exception of the class A -/
theorem exm_is {K : PySem.W.Frag} {mg : Str → Option Value} {nA nB : Str} {fA fB : Addr} (A : ExcC K mg nA fA) (B : ExcC K mg nB fB) {b : Bool} (h : PySem.W.subIn K (.ref A.C) (.ref B.C) = some b) : PySem.W.exmOne K (.ref A.C) (.ref B.C) = some b := by
  have h1 : (PySem.W.subIn K (.ref B.C) (.type "BaseException") == some true) = true := by rw [B.o.exC] <;> rfl
  have h2 : ((PySem.W.clsIn K B.C).isSome && PySem.W.typeIn K (.ref B.C) == some (.type "type")) = true := by
    have e : (PySem.W.clsIn K B.C).isSome = true := B.isc
    rw [e, B.o.tyC] <;> rfl
  unfold PySem.W.exmOne
  rw [if_pos h1]
  show (if ((PySem.W.clsIn K B.C).isSome && PySem.W.typeIn K (.ref B.C) == some (.type "type")) = true then PySem.W.subIn K (.ref A.C) (.ref B.C) else none) = some b
  rw [if_pos h2]
  exact h
/-- __init__(self, what) -/
def sp_init (K : PySem.W.Frag) : Sp := fun vs H Q _ => ∃ (a C : Addr) (y : V) (nm : Str), vs = [.ref a, y] ∧ H a = some (exo a C none) ∧ OexC K C ∧ PySem.W.findIn K (.ref C) "what" = some none ∧ ExcN K C nm ∧
  ∀ dx, H dx = none → dx ≠ a → Q .non (upd (upd H dx (exd dx [("kind", .str nm), ("what", y)])) a (exo a C (some dx)))
abbrev xdW (nm : Str) (y : V) : HO := .xd [(("kind" : Str), V.str nm), (("what" : Str), y)]
/-- at dx: the dict of an exception of the program, its what is y -/
def XdAt (H : Hp) (dx : Addr) (y : V) : Prop := ∃ nm, H dx = some (xdW nm y)
/-- X(e) -/
def tMkX (C : Addr) (nm : Str) (te : TE) : L2.St → Hp → XK → Prop := fun σ H Q => te σ H fun y H1 => ∀ d, H1 d = none → Q (.ref C) (some d) (upd H1 d (xdW nm y))
/-- a word between an expression and what follows -/
def tMd (t : TE) : TE := fun σ H Q => ∃ M : VK, t σ H M ∧ ∀ v H', M v H' → Q v H'
theorem pe_md {X : Cx} {e : Expr} {t : TE} (h : PE X e t) : PE X e (tMd t) := ⟨fun pins s σ H Q I ⟨M, h1, h2⟩ => thn (h.run pins s σ H M I h1) fun u s' ⟨v, H', I', r, m⟩ => ⟨v, H', I', r, h2 v H' m⟩⟩
section
variable {X : Cx} {name : Str} {fI : Addr} {k : Nat} {fd : FuncData} {e : Expr} {te : TE} {p pos : Pos}
theorem pmk_X (D : ExcC X.K X.mg name fI) (tI : PySem.W.typeIn X.K (.ref fI) = some (.type "function")) (F : FnOk X.prog X.w X.K X.mg X.base CX0 k fI fd ["self", "what"] (sp_init X.K)) (hr : Room (k + 1) X.A) (hb : Binds X.K fd ["self", "what"] []) (hg : Gl X name)
    (he : PE X e te) (hdb : (name == ("__debug__" : Str)) = false := by decide) (hs : starEach (e :: []) X.env = (false, eval e X.env) :: starEach [] X.env := by rfl) (hpl : (backTo pos (starEach [] X.env)).any (·.1) = false := by rfl) :
    PMk X (.Call (.Name name p) [e] [] pos) (tMkX D.C name te) := by
  intro pins s σ H Q I h
  refine pmk_oex (ta := tCons (tMd te) tNil) D.o D.i tI F hr hb (.nil : Vals [] []) pass0 hg D.g (pa_cons (pe_md he) pa_nil hs) hdb hs hpl pins s σ H Q I ?_
  refine ⟨_, h, fun y H1 hy => ⟨(by show 1 ≤ 1000; decide), fun a na => ⟨a, D.C, y, name, rfl, upd_same, D.o, D.no, D.nn, fun dx nd ne => ?_⟩⟩⟩
  have nd1 : H1 dx = none := by rw [← nd, upd_ne ne]
  refine ⟨rfl, dx, [(("kind" : Str), V.str name), (("what" : Str), y)], upd_same, ?_, nd1, ?_⟩
  · rw [upd_ne ne, upd_same]
  · have e : upd (del (upd (upd (upd H1 a (exo a D.C none)) dx (exd dx [("kind", .str name), ("what", y)])) a (exo a D.C (some dx))) a) dx (xdW name y) = upd H1 dx (xdW name y) := by
      funext b
      by_cases h1 : b = dx
      · rw [h1, upd_same, upd_same]
      · rw [upd_ne h1, upd_ne h1]
        by_cases h2 : b = a
        · rw [h2, del_same, na]
        · rw [del_ne h2, upd_ne h2, upd_ne h1, upd_ne h2]
    rw [e]
    exact hy dx nd1
/-- e.what, e the exception that the suite holds at a -/
def tWhat (C a : Addr) (cls : Value) (d : Option Addr) (te : TE) : TE := fun σ H Q => te σ H fun x H1 => x = .ref a ∧ cls = .ref C ∧ ∃ (dd : Addr) (y : V), d = some dd ∧ XdAt H1 dd y ∧ Q y H1
theorem pe_what {a : Addr} {oe : Obj} {cls : Value} {d : Option Addr} {pn : List (Addr × Obj)} (D : ExcC X.K X.mg name fI) (hz : Zc cls d oe) (hf : ∃ vs, oe.data = .fields vs) (he : PE (X.suite a ((a, oe) :: pn)) e te)
    (hb : attributeBase e "what" X.env (eval e X.env) = eval e X.env := by rfl) : PE (X.suite a ((a, oe) :: pn)) (.Attribute e "what" pos) (tWhat D.C a cls d te) := by
  refine ⟨fun pins s σ H Q I h => attr_of hb (thn (he.run pins s σ H _ I h) ?_)⟩
  rintro u s1 ⟨x, H1, I1, rx, rfl, rfl, dd, y, rfl, ⟨nm, ea⟩, q⟩
  obtain rfl : u = Value.ref a := rx
  obtain ⟨ha, _⟩ := I1.pin (a, oe) (List.mem_append_left _ List.mem_cons_self)
  obtain ⟨vs, hd⟩ := hf
  obtain ⟨mA, hns, hr⟩ : ObjOk X.prog X.w H1 s1.heap dd (xdW nm y) := I1.hok dd _ ea
  obtain ⟨od, ho, hl⟩ := lookIn_ns hns
  have l : List.lookup ("what" : Str) [(("kind" : Str), V.str nm), (("what" : Str), y)] = some y := by
    rw [lookup_put, if_neg (by decide +kernel), lookup_put, if_pos rfl]
  obtain ⟨u, hu, ru⟩ := RelO.some_of (v := y) (o := mA "what") (by rw [← l]; exact hr "what")
  have J : PySem.W.InstAt s1.heap a oe D.C (some od) := ⟨ha, hz.1, by unfold PySem.W.notCls; rw [hd] <;> rfl, by rw [hz.2]; exact ho⟩
  exact HandSPX.exc_get I1.kIn J D.ga D.gg D.o.exC (PySem.W.findObj_own D.hd D.no rfl (by rw [hl, hu])) (handed_of ru) ⟨y, H1, I1.tok _, ru, q⟩
end
end Nv
set_option Elab.async false
set_option linter.all false
set_option maxRecDepth 100000
namespace Nv
open PySem PySem.Spec PyProof.Rows L2
def topS (i : Nat) : Stmt := PySem.Challenge.pw_neverfour_k14_least_numbers.main.body.getD i (.Pass ⟨0, 0, 0, 0⟩)
abbrev s_whole : Stmt := topS 1
abbrev s_whole_within : Stmt := topS 2
abbrev s_tuple_within : Stmt := topS 3
abbrev s_first_rows : Stmt := topS 4
abbrev s_made_book : Stmt := topS 20
abbrev s_check_form : Stmt := topS 21
abbrev s_has_state_form : Stmt := topS 22
abbrev s_fork_states : Stmt := topS 24
abbrev s_led_to : Stmt := topS 25
abbrev s_reach : Stmt := topS 26
abbrev s_ways_back : Stmt := topS 28
abbrev s_ring_states : Stmt := topS 29
abbrev s_forks_on_rings : Stmt := topS 30
abbrev s_made_window : Stmt := topS 32
abbrev s_leading_to : Stmt := topS 33
abbrev s_ranks_for : Stmt := topS 34
abbrev s_lasting_for : Stmt := topS 35
abbrev s_least_wires : Stmt := topS 38
abbrev s_from_window : Stmt := topS 39
abbrev s_verdict : Stmt := topS 40
abbrev s_least_for : Stmt := topS 41
abbrev s_least_free : Stmt := topS 42
abbrev s_ray_counts : Stmt := topS 43
abbrev s_law_pool : Stmt := topS 45
abbrev s_law_draw : Stmt := topS 46
abbrev s_law_pick : Stmt := topS 47
abbrev s_law_book_meeting : Stmt := topS 48
abbrev s_law_book_messages : Stmt := topS 49
abbrev s_law_book_drawn : Stmt := topS 50
abbrev s_law_win_ends : Stmt := topS 51
abbrev s_law_win_forks : Stmt := topS 52
abbrev s_law_win_ranks : Stmt := topS 53
abbrev s_law_win_back : Stmt := topS 54
abbrev s_law_win_ring_forks : Stmt := topS 55
abbrev s_law_win_rays : Stmt := topS 56
abbrev s_law_win_free : Stmt := topS 57
abbrev s_law_win_least : Stmt := topS 58
abbrev s_law_win_heard : Stmt := topS 59
abbrev s_law_win_no_books : Stmt := topS 60
abbrev s_law_win_no_windows : Stmt := topS 61
abbrev s_law_numbers_right : Stmt := topS 62
abbrev s_law_rayed : Stmt := topS 63
abbrev s_law_many_rays : Stmt := topS 64
abbrev s_law_refused : Stmt := topS 65
abbrev s_law : Stmt := topS 66
structure DefAt (K : PySem.W.Frag) (mg : Str → Option Value) (name : Str) (st : Stmt) (ps : List Str) where
  f : Addr
  fd : FuncData
  F : Fun K name name st f fd
  g : mg name = some (.ref f)
  bd : ∀ us : List Value, us.length = ps.length → bindArgs fd ⟨us, []⟩ = pure (ps.zip us)
structure FunE (K : PySem.W.Frag) (x qual : Str) (st : Stmt) (dvs : List V) (f : Addr) (fd : FuncData) : Prop where
  d : FunD K x qual (defArgs st) (defBody st) (defScope st) dvs [] f fd
theorem FunE.kp {K : PySem.W.Frag} {x qual : Str} {st : Stmt} {dvs : List V} {f : Addr} {fd : FuncData} (F : FunE K x qual st dvs f fd) : PySem.W.keepIn K (.ref f) = true := F.d.kp
theorem FunE.ok {P : Program} {w : World} {K : PySem.W.Frag} {mg : Str → Option Value} {base : Heap} {x qual : Str} {st : Stmt} {dvs : List V} {f : Addr} {fd : FuncData} {N ps : List Str} {k : Nat} {sp : Sp} (F : FunE K x qual st dvs f fd) (S : FnScope N ps (defScope st)) (len : ∀ vs H Q E, sp vs H Q E → vs.length = ps.length)
    (hbody : ∀ (cdv : Value) (A : Around) (outer : List Env) (s : Shared) (H : Hp) (vs : List V) (Q : VK) (E : XK), Room k (A.deeper (envOfC qual (defScope st) s.heap.objs.size f cdv)) → sp vs H Q E →
      ∃ t, PSs (cxOf CX0 P w K mg base N qual (defScope st) f cdv A outer s H E).nox (defBody st) t ∧ t { nx := fun _ H' => Q .non H', rt := Q } (start N vs) H) : FnOk P w K mg base CX0 (k + 1) f fd ps sp :=
  F.d.ok S len fun cdv A outer s H vs Q E hr hsp => by
    obtain ⟨t, h, q⟩ := hbody cdv A outer s H vs Q E hr hsp
    exact ⟨t, h.nox, q⟩
structure DefAtD (K : PySem.W.Frag) (mg : Str → Option Value) (name : Str) (st : Stmt) (ps : List Str) (dvs : List V) where
  f : Addr
  fd : FuncData
  F : FunE K name name st dvs f fd
  g : mg name = some (.ref f)
  b : Binds K fd ps []
  bD : ∃ ds, Vals dvs ds ∧ Binds K fd ps ds
theorem DefAt.b {K : PySem.W.Frag} {mg : Str → Option Value} {n : Str} {st : Stmt} {ps : List Str} (D : DefAt K mg n st ps) : Binds K D.fd ps [] := .all D.bd
theorem DefAt.bind1 {K : PySem.W.Frag} {mg : Str → Option Value} {n x : Str} {st : Stmt} (D : DefAt K mg n st [x]) (s : Shared) (v : Value) : BindsTo s D.fd ⟨[v], []⟩ [(x, v)] := .of_eq (D.bd [v] rfl)
theorem Room.units0 {k : Nat} {A : Around} (hr : Room k A) : A.units + 1 < cLine := hu_of hr
abbrev s_init : Stmt := match topS 6 with
  | .ClassDef _ _ _ b _ _ _ _ _ _ _ => b.getD 0 (.Pass ⟨0, 0, 0, 0⟩)
  | s => s
structure InitAt (K : PySem.W.Frag) where
  f : Addr
  fd : FuncData
  F : Fun K "__init__" "Refused.__init__" s_init f fd
  ti : PySem.W.typeIn K (.ref f) = some (.type "function")
  bd : ∀ us : List Value, us.length = 2 → bindArgs fd ⟨us, []⟩ = pure ((["self", "what"] : List Str).zip us)
theorem InitAt.b {K : PySem.W.Frag} (D : InitAt K) : Binds K D.fd ["self", "what"] [] := .all D.bd
structure Tx (K : PySem.W.Frag) (mg : Str → Option Value) where
  whole : DefAt K mg "whole" s_whole ["thing"]
  whole_within : DefAt K mg "whole_within" s_whole_within ["thing", "low", "high"]
  tuple_within : DefAt K mg "tuple_within" s_tuple_within ["thing", "low", "high"]
  first_rows : DefAtD K mg "first_rows" s_first_rows ["states", "start"] [.int 0]
  made_book : DefAt K mg "made_book" s_made_book ["thing"]
  check_form : DefAt K mg "check_form" s_check_form ["thing"]
  has_state_form : DefAt K mg "has_state_form" s_has_state_form ["thing", "many"]
  fork_states : DefAt K mg "fork_states" s_fork_states ["book"]
  led_to : DefAt K mg "led_to" s_led_to ["book", "state", "message", "many"]
  reach : DefAt K mg "reach" s_reach ["book", "state", "many"]
  ways_back : DefAt K mg "ways_back" s_ways_back ["book", "state"]
  ring_states : DefAt K mg "ring_states" s_ring_states ["book"]
  forks_on_rings : DefAt K mg "forks_on_rings" s_forks_on_rings ["book"]
  made_window : DefAt K mg "made_window" s_made_window ["thing"]
  leading_to : DefAt K mg "leading_to" s_leading_to ["book", "state", "window", "goals"]
  ranks_for : DefAt K mg "ranks_for" s_ranks_for ["book", "window"]
  lasting_for : DefAt K mg "lasting_for" s_lasting_for ["book", "window"]
  least_wires : DefAt K mg "least_wires" s_least_wires ["book", "window"]
  from_window : DefAt K mg "from_window" s_from_window ["book"]
  verdict : DefAt K mg "verdict" s_verdict ["book"]
  least_for : DefAt K mg "least_for" s_least_for ["book", "window"]
  least_free : DefAt K mg "least_free" s_least_free ["book"]
  ray_counts : DefAt K mg "ray_counts" s_ray_counts ["book"]
  law_pool : DefAt K mg "_law_pool" s_law_pool ["script"]
  law_draw : DefAt K mg "_law_draw" s_law_draw ["pool", "many"]
  law_pick : DefAt K mg "_law_pick" s_law_pick ["pool", "things"]
  law_book_meeting : DefAt K mg "_law_book_meeting" s_law_book_meeting ["moves"]
  law_book_messages : DefAt K mg "_law_book_messages" s_law_book_messages ["pool", "count"]
  law_book_drawn : DefAt K mg "_law_book_drawn" s_law_book_drawn ["pool", "states", "most"]
  law_win_ends : DefAt K mg "_law_win_ends" s_law_win_ends ["book", "first", "many"]
  law_win_forks : DefAt K mg "_law_win_forks" s_law_win_forks ["book"]
  law_win_ranks : DefAt K mg "_law_win_ranks" s_law_win_ranks ["book", "window"]
  law_win_back : DefAt K mg "_law_win_back" s_law_win_back ["book"]
  law_win_ring_forks : DefAt K mg "_law_win_ring_forks" s_law_win_ring_forks ["book"]
  law_win_rays : DefAt K mg "_law_win_rays" s_law_win_rays ["book", "first"]
  law_win_free : DefAt K mg "_law_win_free" s_law_win_free ["book"]
  law_win_least : DefAt K mg "_law_win_least" s_law_win_least ["book", "window"]
  law_win_heard : DefAt K mg "_law_win_heard" s_law_win_heard ["call"]
  law_win_no_books : DefAt K mg "_law_win_no_books" s_law_win_no_books ["pool", "book"]
  law_win_no_windows : DefAt K mg "_law_win_no_windows" s_law_win_no_windows []
  law_numbers_right : DefAt K mg "_law_numbers_right" s_law_numbers_right ["pool", "book"]
  law_rayed : DefAt K mg "_law_rayed" s_law_rayed ["pool"]
  law_many_rays : DefAt K mg "_law_many_rays" s_law_many_rays ["pool"]
  law_refused : DefAt K mg "_law_refused" s_law_refused ["pool", "book"]
  law : DefAt K mg "law" s_law ["script"]
  init : InitAt K
  x_BadBook : ExcC K mg "BadBook" init.f
  x_Stray : ExcC K mg "Stray" init.f
  x_BadState : ExcC K mg "BadState" init.f
  x_BadMany : ExcC K mg "BadMany" init.f
  x_TooMany : ExcC K mg "TooMany" init.f
  x_NoMessage : ExcC K mg "NoMessage" init.f
  x_BadWindow : ExcC K mg "BadWindow" init.f
  x_NoNumber : ExcC K mg "NoNumber" init.f
  x_HasLasting : ExcC K mg "HasLasting" init.f
  s_BadBook_BadBook : PySem.W.subIn K (.ref x_BadBook.C) (.ref x_BadBook.C) = some true
  s_Stray_BadBook : PySem.W.subIn K (.ref x_Stray.C) (.ref x_BadBook.C) = some false
  s_Stray_Stray : PySem.W.subIn K (.ref x_Stray.C) (.ref x_Stray.C) = some true
  s_BadWindow_BadBook : PySem.W.subIn K (.ref x_BadWindow.C) (.ref x_BadBook.C) = some false
  s_BadWindow_Stray : PySem.W.subIn K (.ref x_BadWindow.C) (.ref x_Stray.C) = some false
  s_BadWindow_BadState : PySem.W.subIn K (.ref x_BadWindow.C) (.ref x_BadState.C) = some false
  s_BadWindow_NoMessage : PySem.W.subIn K (.ref x_BadWindow.C) (.ref x_NoMessage.C) = some false
  s_BadWindow_BadMany : PySem.W.subIn K (.ref x_BadWindow.C) (.ref x_BadMany.C) = some false
  s_BadWindow_BadWindow : PySem.W.subIn K (.ref x_BadWindow.C) (.ref x_BadWindow.C) = some true
  n_isinstance : mg "isinstance" = none
  n_int : mg "int" = none
  n_bool : mg "bool" = none
  n_tuple : mg "tuple" = none
  n_len : mg "len" = none
  n_range : mg "range" = none
  n_dict : mg "dict" = none
  n_min : mg "min" = none
  n_sorted : mg "sorted" = none
  n_set : mg "set" = none
  n_any : mg "any" = none
  n_list : mg "list" = none
  n_sum : mg "sum" = none
  n_max : mg "max" = none
  n_enumerate : mg "enumerate" = none
  n_repr : mg "repr" = none
  c_MOST_STATES : ∃ t, mg "MOST_STATES" = some (.int 8 t)
  c_MOST_MESSAGES : ∃ t, mg "MOST_MESSAGES" = some (.int 5 t)
  c_GREATEST_MESSAGE : ∃ t, mg "GREATEST_MESSAGE" = some (.int 99 t)
  c_LAST_WINDOW : ∃ t, mg "LAST_WINDOW" = some (.int 9 t)
end Nv
set_option Elab.async false
set_option linter.all false
set_option maxRecDepth 100000
namespace Nv
open PySem PySem.Spec PyProof.Rows L2
/-! ### what stays -/
/-- all that was tracked is as it was, but for the addresses of L -/
def Ext (L : List Addr) (H H' : Hp) : Prop := ∀ b o, b ∉ L → H b = some o → H' b = some o
theorem Ext.refl {L : List Addr} {H : Hp} : Ext L H H := fun _ _ _ e => e
theorem Ext.trans {L : List Addr} {H H1 H2 : Hp} (a : Ext L H H1) (b : Ext L H1 H2) : Ext L H H2 := fun c o n e => b c o n (a c o n e)
theorem Ext.mono {L M : List Addr} {H H' : Hp} (a : Ext L H H') (s : ∀ x ∈ L, x ∈ M) : Ext M H H' := fun c o n e => a c o (fun z => n (s c z)) e
theorem Ext.weak {L : List Addr} {H H' : Hp} (a : Ext [] H H') : Ext L H H' := a.mono fun x z => nomatch z
theorem Ext.same {L : List Addr} {H H' : Hp} (a : Same H H') : Ext L H H' := fun c o _ e => a c o e
theorem Ext.toSame {H H' : Hp} (a : Ext [] H H') : Same H H' := fun c o e => a c o (by simp) e
theorem Ext.new {L : List Addr} {H : Hp} {p : Addr} {o : HO} (h : H p = none) : Ext L H (upd H p o) := fun b u _ e => by
  rw [upd_ne (ne_of_none e h)]
  exact e
theorem Ext.wr {L : List Addr} {H : Hp} {p : Addr} {o : HO} (h : p ∈ L) : Ext L H (upd H p o) := fun b u n e => by
  rw [upd_ne (fun z => n (by rw [z]; exact h))]
  exact e
theorem Ext.at {L : List Addr} {H H' : Hp} {p : Addr} {o : HO} (a : Ext L H H') (h : H p = some o) (n : p ∉ L) : H' p = some o := a p o n h
theorem Ext.free {H H' : Hp} {p : Addr} (a : Ext [] H H') (h : H' p = none) : H p = none := a.toSame.free h
/-- drop an address that was free -/
theorem Ext.drop {L : List Addr} {H H' : Hp} {p : Addr} (a : Ext (p :: L) H H') (h : H p = none) : Ext L H H' := fun b o n e => a b o (fun z => by
  rcases List.mem_cons.mp z with z | z
  · exact ne_of_none e h z
  · exact n z) e
theorem Ext.drop2 {L : List Addr} {H H1 H' : Hp} {p : Addr} (s : Ext [] H H1) (a : Ext (p :: L) H1 H') (h : H p = none) : Ext L H H' := Ext.drop ((s.weak).trans a) h
/-- at these addresses stand no tuples -/
def Lsts (L : List Addr) (H : Hp) : Prop := ∀ l ∈ L, ∃ o, H l = some o ∧ (∀ xs, o ≠ .tup xs) ∧ ∀ ob u, o ≠ .frz ob u
theorem Lsts.nil {H : Hp} : Lsts [] H := fun _ z => nomatch z
theorem Lsts.not {L : List Addr} {H : Hp} (l : Lsts L H) {a : Addr} {xs : List V} (h : H a = some (.tup xs)) : a ∉ L := fun z => by
  obtain ⟨o, e, n, _⟩ := l a z
  rw [h] at e
  exact n xs (Option.some.inj e).symm
theorem Lsts.notF {L : List Addr} {H : Hp} (l : Lsts L H) {a : Addr} {ob : Obj} {u : HO} (h : H a = some (.frz ob u)) : a ∉ L := fun z => by
  obtain ⟨o, e, _, n⟩ := l a z
  rw [h] at e
  exact n ob u (Option.some.inj e).symm
theorem Ext.tup {L : List Addr} {H H' : Hp} {K : PySem.W.Frag} {a : Addr} {xs : List V} (e : Ext L H H') (l : Lsts L H) (h : SqT K H a xs) : SqT K H' a xs := by
  rcases h with (h | ⟨o, h⟩) | h
  · exact .inl (.inl (e _ _ (l.not h) h))
  · exact .inl (.inr ⟨o, e _ _ (l.notF h) h⟩)
  · exact .inr h
theorem Ext.tz {L : List Addr} {H H' : Hp} {a : Addr} {xs : List V} (e : Ext L H H') (l : Lsts L H) (h : TupZ H a xs) : TupZ H' a xs := by
  obtain ⟨o, h, d⟩ := h
  exact ⟨o, e _ _ (l.notF h) h, d⟩
theorem Ext.frz {L : List Addr} {H H' : Hp} {K : PySem.W.Frag} {a : Addr} {xs : List V} (e : Ext L H H') (n : a ∉ L) (h : SqL K H a xs) : SqL K H' a xs := by
  rcases h with (h | ⟨o, h⟩) | h
  · exact .inl (.inl (e _ _ n h))
  · exact .inl (.inr ⟨o, e _ _ n h⟩)
  · exact .inr h
theorem two_lsts {p l : Addr} {H : Hp} {xs ys : List V} (h1 : H p = some (.lst xs)) (h2 : H l = some (.lst ys)) : Lsts [p, l] H := fun a z => by
  rcases List.mem_cons.mp z with z | z
  · exact ⟨.lst xs, by rw [z]; exact h1, fun _ q => (nomatch q), fun _ _ q => (nomatch q)⟩
  · exact ⟨.lst ys, by rw [List.mem_singleton.mp z]; exact h2, fun _ q => (nomatch q), fun _ _ q => (nomatch q)⟩
theorem one_lst {p : Addr} {H : Hp} {xs : List V} (h1 : H p = some (.lst xs)) : Lsts [p] H := fun a z => ⟨.lst xs, by rw [List.mem_singleton.mp z]; exact h1, fun _ q => (nomatch q), fun _ _ q => (nomatch q)⟩
theorem one_dk {p : Addr} {H : Hp} {xs : List (Key × V)} (h1 : H p = some (.dK xs)) : Lsts [p] H := fun a z => ⟨.dK xs, by rw [List.mem_singleton.mp z]; exact h1, fun _ q => (nomatch q), fun _ _ q => (nomatch q)⟩
theorem one_tbl {p : Addr} {H : Hp} {xs : Array Value} (h1 : H p = some (.tbl xs)) : Lsts [p] H := fun a z => ⟨.tbl xs, by rw [List.mem_singleton.mp z]; exact h1, fun _ q => (nomatch q), fun _ _ q => (nomatch q)⟩
/-! ### a word between an expression and what follows -/
def tMid (t : TE) : TE := fun σ H Q => ∃ M : VK, t σ H M ∧ ∀ v H', M v H' → Q v H'
theorem pe_mid {X : Cx} {e : Expr} {t : TE} (h : PE X e t) : PE X e (tMid t) := ⟨fun pins s σ H Q I ⟨M, h1, h2⟩ => thn (h.run pins s σ H M I h1) fun u s' ⟨v, H', I', r, m⟩ => ⟨v, H', I', r, h2 v H' m⟩⟩
def tMidT (t : TT) : TT := fun σ H Q => ∃ M : Bool → Hp → Prop, t σ H M ∧ ∀ v H', M v H' → Q v H'
theorem pt_mid {X : Cx} {e : Expr} {t : TT} (h : PT X e t) : PT X e (tMidT t) := ⟨fun pins s σ H Q I ⟨M, h1, h2⟩ => thn (h.run pins s σ H M I h1) fun u s' ⟨H', I', m⟩ => ⟨H', I', h2 _ H' m⟩⟩
/-! ### data: ints -/
theorem ints_lay : ∀ ns : List Int, PyData.canLayAll0 (ns.map PyData.int) = true
  | [] => rfl
  | n :: r => by simp [PyData.canLayAll0, PyData.canLay0, ints_lay r]
theorem ints_depth : ∀ ns : List Int, PyData.depthAll (ns.map PyData.int) = 0
  | [] => rfl
  | n :: r => by simp [PyData.depthAll, PyData.depth, ints_depth r]
theorem ints_show : ∀ ns : List Int, (∀ n ∈ ns, 0 ≤ n ∧ n < 1000) → PyData.showableAll (ns.map PyData.int) = true
  | [], _ => rfl
  | n :: r, h => by
    have h1 := h n (by simp)
    have h2 : n.natAbs.log2 < 1920 := Nat.lt_of_le_of_lt (Nat.log2_le_self _) (by omega)
    simp [PyData.showableAll, PyData.showable, ints_show r fun m hm => h m (by simp [hm]), h2]
theorem ints_nodict : ∀ ns : List Int, PyData.hasDictAll (ns.map PyData.int) = false
  | [] => rfl
  | n :: r => by simp [PyData.hasDictAll, PyData.hasDict, ints_nodict r]
theorem ints_eqv : ∀ ns ms : List Int, PyData.eqvAll (ns.map PyData.int) (ms.map PyData.int) = decide (ns = ms)
  | [], [] => by simp [PyData.eqvAll]
  | [], m :: q => by simp [PyData.eqvAll]
  | n :: r, [] => by simp [PyData.eqvAll]
  | n :: r, m :: q => by
    simp only [List.map_cons, PyData.eqvAll, PyData.eqv, ints_eqv r q, List.cons.injEq]
    by_cases h : n = m <;> simp [h]
theorem dp_ints {K : PySem.W.Frag} {H : Hp} : ∀ (ns : List Int), DpAll K H (ns.map V.int) (ns.map PyData.int)
  | [] => .nil
  | n :: r => .cons (.int n) (dp_ints r)
theorem shaped_ints (ns : List Int) : SeqAt.shaped (.list (ns.map PyData.int)) = true := by simp [SeqAt.shaped, PyData.canLay0, ints_lay, PyData.depth, ints_depth]
theorem shaped_intsT (ns : List Int) : SeqAt.shaped (.tuple (ns.map PyData.int)) = true := by simp [SeqAt.shaped, PyData.canLay0, ints_lay, PyData.depth, ints_depth]
theorem eqv_nil {ns : List Int} : PyData.eqv (.list (ns.map PyData.int)) (.list []) = decide (ns = []) := by
  have h := ints_eqv ns []
  simpa [PyData.eqv] using h
/-! ### books -/
abbrev State := List (Nat × Nat)
abbrev Book := List State
def MvV (K : PySem.W.Frag) (H : Hp) (p : Addr) (m : Nat × Nat) : Prop := SqT K H p [.int m.1, .int m.2]
def StV (K : PySem.W.Frag) (H : Hp) (v : V) (s : State) : Prop := ∃ (a : Addr) (ps : List Addr), v = .ref a ∧ TupZ H a (ps.map V.ref) ∧ Paired (MvV K H) ps s
def BkV (K : PySem.W.Frag) (H : Hp) (v : V) (b : Book) : Prop := ∃ (a : Addr) (vs : List V), v = .ref a ∧ SqT K H a vs ∧ Paired (StV K H) vs b
theorem Paired.imp {α β : Type} {F G : α → β → Prop} : ∀ {l₁ : List α} {l₂ : List β}, Paired F l₁ l₂ → (∀ a b, F a b → G a b) → Paired G l₁ l₂
  | _, _, .nil, _ => .nil
  | _, _, .cons r t, f => .cons (f _ _ r) (Paired.imp t f)
theorem Paired.get {α β : Type} {F : α → β → Prop} : ∀ {l₁ : List α} {l₂ : List β} {i : Nat} {b : β}, Paired F l₁ l₂ → l₂[i]? = some b → ∃ a, l₁[i]? = some a ∧ F a b
  | _, _, _, _, .nil, e => by simp at e
  | _, _, 0, _, .cons r _, e => by cases e; exact ⟨_, rfl, r⟩
  | _, _, i + 1, _, .cons _ t, e => by
    obtain ⟨a, e1, e2⟩ := Paired.get (i := i) t (by simpa using e)
    exact ⟨a, by simpa using e1, e2⟩
theorem Paired.get' {α β : Type} {F : α → β → Prop} : ∀ {l₁ : List α} {l₂ : List β} {i : Nat} {a : α}, Paired F l₁ l₂ → l₁[i]? = some a → ∃ b, l₂[i]? = some b ∧ F a b
  | _, _, _, _, .nil, e => by simp at e
  | _, _, 0, _, .cons r _, e => by cases e; exact ⟨_, rfl, r⟩
  | _, _, i + 1, _, .cons _ t, e => by
    obtain ⟨a, e1, e2⟩ := Paired.get' (i := i) t (by simpa using e)
    exact ⟨a, by simpa using e1, e2⟩
theorem Paired.len {α β : Type} {F : α → β → Prop} : ∀ {l₁ : List α} {l₂ : List β}, Paired F l₁ l₂ → l₁.length = l₂.length
  | _, _, .nil => rfl
  | _, _, .cons _ t => by rw [List.length_cons, List.length_cons, Paired.len t]
theorem Paired.snoc {α β : Type} {F : α → β → Prop} {a : α} {b : β} (h : F a b) : ∀ {l₁ : List α} {l₂ : List β}, Paired F l₁ l₂ → Paired F (l₁ ++ [a]) (l₂ ++ [b])
  | _, _, .nil => .cons h .nil
  | _, _, .cons r t => .cons r (Paired.snoc h t)
theorem StV.ext {L : List Addr} {H H' : Hp} {K : PySem.W.Frag} {v : V} {s : State} (e : Ext L H H') (l : Lsts L H) (h : StV K H v s) : StV K H' v s := by
  obtain ⟨a, ps, rfl, h1, h2⟩ := h
  exact ⟨a, ps, rfl, e.tz l h1, Paired.imp h2 fun _ _ q => e.tup l q⟩
theorem BkV.ext {L : List Addr} {H H' : Hp} {K : PySem.W.Frag} {v : V} {b : Book} (e : Ext L H H') (l : Lsts L H) (h : BkV K H v b) : BkV K H' v b := by
  obtain ⟨a, vs, rfl, h1, h2⟩ := h
  exact ⟨a, vs, rfl, e.tup l h1, Paired.imp h2 fun _ _ q => q.ext e l⟩
theorem BkV.ext0 {H H' : Hp} {K : PySem.W.Frag} {v : V} {b : Book} (h : BkV K H v b) (e : Ext [] H H') : BkV K H' v b := h.ext e Lsts.nil
theorem StV.ext0 {H H' : Hp} {K : PySem.W.Frag} {v : V} {s : State} (h : StV K H v s) (e : Ext [] H H') : StV K H' v s := h.ext e Lsts.nil
/-- values -/
theorem atN {xs : List V} {i : Nat} {v : V} (h : xs[i]? = some v) : atI xs (i : Int) = some v := atI_nat h
abbrev nV (n : Nat) : V := .int (n : Int)
theorem map_at {α : Type} {f : α → V} {xs : List α} {i : Nat} {y : V} (h : (xs.map f)[i]? = some y) : ∃ x, xs[i]? = some x ∧ y = f x := by
  rw [List.getElem?_map] at h
  cases e : xs[i]? with
  | none => rw [e] at h; cases h
  | some x => rw [e] at h; exact ⟨x, rfl, (Option.some.inj h).symm⟩
theorem at_map {α : Type} {f : α → V} {xs : List α} {i : Nat} {x : α} (h : xs[i]? = some x) : (xs.map f)[i]? = some (f x) := by rw [List.getElem?_map, h]; rfl
theorem dec_int {a b : Int} : decide (V.int a = V.int b) = decide (a = b) := by
  by_cases h : a = b
  · subst h; simp
  · rw [decide_eq_false h, decide_eq_false fun e => h (V.int.inj e)]
theorem ifB {b : Bool} {A B : Prop} (h1 : b = true → A) (h2 : b = false → B) : if b = true then A else B := by
  cases b
  · exact iteF (h2 rfl)
  · exact iteT (h1 rfl)
theorem flat_nV (F : List Nat) : (F.map nV).all flatV = true := by
  rw [List.all_eq_true]
  intro v hv
  obtain ⟨n, _, rfl⟩ := List.mem_map.mp hv
  rfl
theorem eqV_nV (a b : Nat) : eqV (nV a) (nV b) = decide (a = b) := by
  unfold nV eqV
  by_cases h : a = b
  · subst h; simp
  · have h2 : ¬ ((a : Int) = (b : Int)) := fun e => h (by omega)
    simp [h, h2]
theorem inV_nV (t : Nat) (F : List Nat) : inV (nV t) (F.map nV) = decide (t ∈ F) := by
  unfold inV
  rw [List.any_map]
  by_cases h : t ∈ F
  · rw [decide_eq_true h, List.any_eq_true]
    exact ⟨t, h, by simp [eqV_nV]⟩
  · rw [decide_eq_false h, List.any_eq_false]
    intro x hx
    simp only [Function.comp, eqV_nV, decide_eq_true_eq]
    exact fun e => h (e ▸ hx)
/-- lists of moves that are not closed yet -/
def LsV (K : PySem.W.Frag) (H : Hp) (v : V) (s : State) : Prop := ∃ (a : Addr) (ps : List Addr), v = .ref a ∧ H a = some (.lst (ps.map V.ref)) ∧ Paired (MvV K H) ps s
def LbV (K : PySem.W.Frag) (H : Hp) (v : V) (b : Book) : Prop := ∃ (a : Addr) (vs : List V), v = .ref a ∧ H a = some (.lst vs) ∧ Paired (LsV K H) vs b
theorem LsV.ext0 {H H' : Hp} {K : PySem.W.Frag} {v : V} {s : State} (h : LsV K H v s) (e : Ext [] H H') : LsV K H' v s := by
  obtain ⟨a, ps, rfl, h1, h2⟩ := h
  exact ⟨a, ps, rfl, e.at h1 (by simp), Paired.imp h2 fun _ _ q => e.tup Lsts.nil q⟩
theorem LbV.ext0 {H H' : Hp} {K : PySem.W.Frag} {v : V} {b : Book} (h : LbV K H v b) (e : Ext [] H H') : LbV K H' v b := by
  obtain ⟨a, ps, rfl, h1, h2⟩ := h
  exact ⟨a, ps, rfl, e.at h1 (by simp), Paired.imp h2 fun _ _ q => q.ext0 e⟩
theorem MvV.ext0 {H H' : Hp} {K : PySem.W.Frag} {p : Addr} {m : Nat × Nat} (h : MvV K H p m) (e : Ext [] H H') : MvV K H' p m := e.tup Lsts.nil h
/-- a list that was made behind H may be written -/
theorem Ext.put {H H' : Hp} {p : Addr} {o : HO} (e : Ext [] H H') (h : H p = none) : Ext [] H (upd H' p o) := Ext.drop (e.weak.trans (.wr (by simp))) h
theorem Ext.put' {L : List Addr} {H H' : Hp} {p : Addr} {o : HO} (e : Ext L H H') (h : H p = none) : Ext L H (upd H' p o) := Ext.drop ((e.mono fun x z => List.mem_cons_of_mem _ z).trans (.wr (by simp))) h
theorem Ext.put2 {L : List Addr} {H H' : Hp} {p : Addr} {o : HO} (e : Ext L H H') (h : H' p = none) : Ext L H (upd H' p o) := e.trans (.new h)
theorem StV.put {H : Hp} {K : PySem.W.Frag} {v : V} {s : State} {p : Addr} {xs ys : List V} (h : StV K H v s) (hp : H p = some (.lst xs)) : StV K (upd H p (.lst ys)) v s := h.ext (L := [p]) (.wr (by simp)) (one_lst hp)
theorem MvV.put {H : Hp} {K : PySem.W.Frag} {q : Addr} {m : Nat × Nat} {p : Addr} {xs ys : List V} (h : MvV K H q m) (hp : H p = some (.lst xs)) : MvV K (upd H p (.lst ys)) q m := Ext.tup (L := [p]) (.wr (by simp)) (one_lst hp) h
theorem yes {σ : L2.St} {H : Hp} {A B : Hp → Prop} (h : A H) : tYes σ H (fun b H3 => if b = true then A H3 else B H3) := by
  show if true = true then A H else B H
  exact iteT h
theorem Ext.free2 {L : List Addr} {H H' : Hp} {x : Addr} (e : Ext L H H') (h : H' x = none) (n : x ∉ L) : H x = none := by
  cases q : H x with
  | none => rfl
  | some o =>
    rw [e x o n q] at h
    cases h
theorem eraseIdx_nV {α β : Type} (f : α → β) : ∀ (L : List α) (k : Nat), (L.map f).eraseIdx k = (L.eraseIdx k).map f
  | [], _ => rfl
  | _ :: _, 0 => rfl
  | a :: r, k + 1 => by simp [eraseIdx_nV f r k]
theorem off2 {p l x : Addr} (a : x ≠ p) (b : x ≠ l) : x ∉ [p, l] := fun z => by
  rcases List.mem_cons.mp z with z | z
  · exact a z
  · exact b (List.mem_singleton.mp z)
/-- such a list, not at one of these addresses -/
def LsN (K : PySem.W.Frag) (H : Hp) (X : List Addr) (v : V) (s : State) : Prop := ∃ (a : Addr) (ps : List Addr), v = .ref a ∧ a ∉ X ∧ H a = some (.lst (ps.map V.ref)) ∧ Paired (MvV K H) ps s
theorem LsN.ls {K : PySem.W.Frag} {H : Hp} {X : List Addr} {v : V} {s : State} (h : LsN K H X v s) : LsV K H v s := by
  obtain ⟨a, ps, e, _, h1, h2⟩ := h
  exact ⟨a, ps, e, h1, h2⟩
theorem LsN.ext {K : PySem.W.Frag} {H H' : Hp} {X Y : List Addr} {v : V} {s : State} (h : LsN K H X v s) (e : Ext Y H H') (yx : ∀ y ∈ Y, y ∈ X) (l : Lsts Y H) : LsN K H' X v s := by
  obtain ⟨a, ps, ea, n, h1, h2⟩ := h
  exact ⟨a, ps, ea, n, e _ _ (fun z => n (yx a z)) h1, Paired.imp h2 fun _ _ q => e.tup l q⟩
def mvD (q : Nat × Nat) : PyData := .tuple [.int (q.1 : Int), .int (q.2 : Int)]
theorem dp_mvs {K : PySem.W.Frag} {H : Hp} : ∀ {ps : List Addr} {s : State}, Paired (MvV K H) ps s → DpAll K H (ps.map V.ref) (s.map mvD)
  | _, _, .nil => .nil
  | _, _, .cons r t => .cons (.tup r (.cons (.int _) (.cons (.int _) .nil))) (dp_mvs t)
theorem mvs_lay : ∀ s : State, PyData.canLayAll0 (s.map mvD) = true
  | [] => rfl
  | q :: r => by simp [PyData.canLayAll0, PyData.canLay0, mvs_lay r, mvD]
theorem mvs_depth : ∀ s : State, PyData.depthAll (s.map mvD) ≤ 1
  | [] => by simp [PyData.depthAll]
  | q :: r => by
    have := mvs_depth r
    simp [PyData.depthAll, PyData.depth, mvD]
    omega
theorem shaped_mvs (s : State) : SeqAt.shaped (.list (s.map mvD)) = true := by
  have := mvs_depth s
  simp [SeqAt.shaped, PyData.canLay0, mvs_lay, PyData.depth]
  omega
theorem eqv_mvs_nil (s : State) : PyData.eqv (.list (s.map mvD)) (.list []) = decide (s = []) := by
  cases s <;> simp [PyData.eqv, PyData.eqvAll]
theorem ixNat {k n : Nat} (h : k < n) : ixN n (k : Int) = some k := by
  unfold ixN
  rw [if_pos (by omega), if_pos (by omega)]
  simp
theorem Paired.set {α β : Type} {F : α → β → Prop} {a : α} {b : β} (h : F a b) : ∀ {l₁ : List α} {l₂ : List β} (k : Nat), Paired F l₁ l₂ → Paired F (l₁.set k a) (l₂.set k b)
  | _, _, _, .nil => .nil
  | _, _, 0, .cons _ t => .cons h t
  | _, _, k + 1, .cons r t => .cons r (Paired.set h k t)
/-- the keys of a dict -/
abbrev kN (n : Nat) : Key := Sum.inl (n : Int)
theorem valV_key {kvs : List (Key × V)} {F : List Nat} (h : kvs.map (·.1) = F.map kN) (n : Nat) : (valV kvs (kN n)).isSome = decide (n ∈ F) := by
  rw [← valV_any]
  have e : (kvs.any fun kv => decide (kv.1 = kN n)) = ((kvs.map (·.1)).any fun k => decide (k = kN n)) := by rw [List.any_map]; rfl
  rw [e, h, List.any_map]
  by_cases m : n ∈ F
  · rw [decide_eq_true m, List.any_eq_true]
    exact ⟨n, m, by simp⟩
  · rw [decide_eq_false m, List.any_eq_false]
    intro x hx
    simp only [Function.comp, decide_eq_true_eq]
    intro e
    have e2 : (x : Int) = (n : Int) := Sum.inl.inj e
    exact m (by rw [show n = x by omega]; exact hx)
theorem valV_mem {kvs : List (Key × V)} {k : Key} {v : V} (h : valV kvs k = some v) : (k, v) ∈ kvs := by
  unfold valV at h
  cases e : kvs.find? (fun kv => decide (kv.1 = k)) with
  | none => rw [e] at h; cases h
  | some p =>
    rw [e] at h
    cases h
    have h1 := List.mem_of_find?_eq_some e
    have h2 := List.find?_some e
    simp at h2
    rw [← h2]
    exact h1
/-! ### books whose states are any tuples -/
def StW (K : PySem.W.Frag) (H : Hp) (v : V) (s : State) : Prop := ∃ (a : Addr) (ps : List Addr), v = .ref a ∧ SqT K H a (ps.map V.ref) ∧ Paired (MvV K H) ps s
def BkW (K : PySem.W.Frag) (H : Hp) (v : V) (b : Book) : Prop := ∃ (a : Addr) (vs : List V), v = .ref a ∧ SqT K H a vs ∧ Paired (StW K H) vs b
theorem BkV.wk {K : PySem.W.Frag} {H : Hp} {v : V} {b : Book} (h : BkV K H v b) : BkW K H v b := by
  obtain ⟨a, vs, rfl, h1, h2⟩ := h
  exact ⟨a, vs, rfl, h1, Paired.imp h2 fun _ _ z => by obtain ⟨c, ps, rfl, h3, h4⟩ := z; exact ⟨c, ps, rfl, h3.sq, h4⟩⟩
theorem BkW.ext {L : List Addr} {H H' : Hp} {K : PySem.W.Frag} {v : V} {b : Book} (e : Ext L H H') (l : Lsts L H) (h : BkW K H v b) : BkW K H' v b := by
  obtain ⟨a, vs, rfl, h1, h2⟩ := h
  exact ⟨a, vs, rfl, e.tup l h1, Paired.imp h2 fun _ _ z => by obtain ⟨c, ps, rfl, h3, h4⟩ := z; exact ⟨c, ps, rfl, e.tup l h3, Paired.imp h4 fun _ _ q => e.tup l q⟩⟩
theorem BkW.ext0 {H H' : Hp} {K : PySem.W.Frag} {v : V} {b : Book} (h : BkW K H v b) (e : Ext [] H H') : BkW K H' v b := h.ext e Lsts.nil
end Nv
set_option linter.all false
namespace Nv
/-! ### books: the mathematics -/
def mvs (b : Book) (s : Nat) : State := b.getD s []
inductive Rch (b : Book) : Nat → Prop
  | zero : Rch b 0
  | step {s : Nat} {p : Nat × Nat} : Rch b s → p ∈ mvs b s → Rch b p.2
/-- a state's form, of a book with n states -/
structure StOk (n : Nat) (s : State) : Prop where
  few : s.length ≤ 5
  rise : (s.map (·.1)).Pairwise (· < ·)
  msg : ∀ p ∈ s, p.1 ≤ 99
  to : ∀ p ∈ s, p.2 < n
/-- the form of a book -/
structure FormB (b : Book) : Prop where
  one : 1 ≤ b.length
  eight : b.length ≤ 8
  st : ∀ s ∈ b, StOk b.length s
structure OkB (b : Book) : Prop extends FormB b where
  reach : ∀ s, s < b.length → Rch b s
theorem mvs_of {b : Book} {s : Nat} {x : State} (h : b[s]? = some x) : mvs b s = x := by
  unfold mvs
  rw [List.getD_eq_getElem?_getD, h]
  rfl
theorem mvs_lt {b : Book} {s : Nat} (h : s < b.length) : b[s]? = some (mvs b s) := by
  rw [mvs_of (List.getElem?_eq_getElem h)]
  exact List.getElem?_eq_getElem h
theorem mvs_mem {b : Book} {s : Nat} (h : s < b.length) : mvs b s ∈ b := List.mem_of_getElem? (mvs_lt h)
theorem mvs_out {b : Book} {s : Nat} (h : b.length ≤ s) : mvs b s = [] := by
  unfold mvs
  rw [List.getD_eq_getElem?_getD, List.getElem?_eq_none h]
  rfl
theorem FormB.ok {b : Book} (h : FormB b) {s : Nat} (hs : s < b.length) : StOk b.length (mvs b s) := h.st _ (mvs_mem hs)
theorem FormB.to {b : Book} (h : FormB b) {s : Nat} {p : Nat × Nat} (hp : p ∈ mvs b s) : p.2 < b.length := by
  by_cases hs : s < b.length
  · exact (h.ok hs).to p hp
  · rw [mvs_out (by omega)] at hp
    cases hp
/-- what meeting finds: F the states in their order -/
structure Met (b : Book) (F : List Nat) : Prop where
  nd : F.Nodup
  zero : F[0]? = some 0
  lt : ∀ s ∈ F, s < b.length
  cl : ∀ s ∈ F, ∀ p ∈ mvs b s, p.2 ∈ F
  from_ : ∀ j s, F[j]? = some s → j ≠ 0 → ∃ i s', i < j ∧ F[i]? = some s' ∧ ∃ p ∈ mvs b s', p.2 = s
def rename (b : Book) (F : List Nat) : Book := F.map fun s => (mvs b s).map fun p => (p.1, F.idxOf p.2)
theorem rename_len {b : Book} {F : List Nat} : (rename b F).length = F.length := by simp [rename]
theorem rename_at {b : Book} {F : List Nat} {j s : Nat} (h : F[j]? = some s) : mvs (rename b F) j = (mvs b s).map fun p => (p.1, F.idxOf p.2) := by
  refine mvs_of ?_
  unfold rename
  rw [List.getElem?_map, h]
  rfl
theorem idx_of {F : List Nat} (nd : F.Nodup) {j s : Nat} (h : F[j]? = some s) : F.idxOf s = j := by
  obtain ⟨hj, e⟩ := List.getElem?_eq_some_iff.mp h
  rw [← e]
  exact List.Nodup.idxOf_getElem nd j hj
theorem nodup_le {n : Nat} {F : List Nat} (nd : F.Nodup) (lt : ∀ s ∈ F, s < n) : F.length ≤ n := by
  have h := (List.nodup_range (n := n))
  have : F ⊆ List.range n := fun s hs => List.mem_range.mpr (lt s hs)
  have := List.Nodup.length_le_of_subset nd this
  simpa using this
theorem Met.okB {b : Book} {F : List Nat} (m : Met b F) (h8 : b.length ≤ 8) (hs : ∀ s, s < b.length → (mvs b s).length ≤ 5 ∧ ((mvs b s).map (·.1)).Pairwise (· < ·) ∧ ∀ p ∈ mvs b s, p.1 ≤ 99) : OkB (rename b F) := by
  have h0 : 0 < F.length := (List.getElem?_eq_some_iff.mp m.zero).1
  have hle : F.length ≤ b.length := nodup_le m.nd m.lt
  refine { one := by rw [rename_len]; exact h0, eight := by rw [rename_len]; omega, st := fun x hx => ?_, reach := fun j hj => ?_ }
  · obtain ⟨s, hsF, rfl⟩ := List.mem_map.mp hx
    obtain ⟨a1, a2, a3⟩ := hs s (m.lt s hsF)
    refine ⟨by rw [List.length_map]; exact a1, ?_, fun p hp => ?_, fun p hp => ?_⟩
    · rw [List.map_map]
      exact a2
    · obtain ⟨q, hq, rfl⟩ := List.mem_map.mp hp
      exact a3 q hq
    · obtain ⟨q, hq, rfl⟩ := List.mem_map.mp hp
      rw [rename_len]
      exact List.idxOf_lt_length_of_mem (m.cl s hsF q hq)
  · rw [rename_len] at hj
    have key : ∀ n, ∀ j, j ≤ n → j < F.length → Rch (rename b F) j := by
      intro n
      induction n with
      | zero =>
        intro j h1 _
        have e : j = 0 := by omega
        rw [e]
        exact .zero
      | succ n ih =>
        intro j h1 h2
        by_cases e : j = 0
        · subst e; exact .zero
        · obtain ⟨i, s', hi, hs', p, hp, ep⟩ := m.from_ j F[j] (List.getElem?_eq_getElem h2) e
          have r := ih i (by omega) (by omega)
          have : (p.1, F.idxOf p.2) ∈ mvs (rename b F) i := by
            rw [rename_at hs']
            exact List.mem_map.mpr ⟨p, hp, rfl⟩
          have r2 := Rch.step r this
          have e2 : F.idxOf p.2 = j := idx_of m.nd (by rw [ep]; exact List.getElem?_eq_getElem h2)
          rw [e2] at r2
          exact r2
    exact key j j (Nat.le_refl _) hj
/-! ### meeting, step by step -/
structure MetI (b : Book) (F : List Nat) (i : Nat) : Prop where
  nd : F.Nodup
  zero : F[0]? = some 0
  lt : ∀ s ∈ F, s < b.length
  from_ : ∀ j s, F[j]? = some s → j ≠ 0 → ∃ i s', i < j ∧ F[i]? = some s' ∧ ∃ p ∈ mvs b s', p.2 = s
  le : i ≤ F.length
  cl : ∀ j s, j < i → F[j]? = some s → ∀ p ∈ mvs b s, p.2 ∈ F
structure MetW (b : Book) (F : List Nat) (i s k : Nat) : Prop extends MetI b F i where
  here : F[i]? = some s
  part : ∀ p ∈ (mvs b s).take k, p.2 ∈ F
theorem MetI.first {b : Book} (h : 1 ≤ b.length) : MetI b [0] 0 where
  nd := by simp
  zero := rfl
  lt := fun s hs => by simp at hs; omega
  from_ := fun j s h n => by
    have := (List.getElem?_eq_some_iff.mp h).1
    simp at this
    omega
  le := by simp
  cl := fun j s h => by omega
theorem MetI.begin {b : Book} {F : List Nat} {i s : Nat} (m : MetI b F i) (h : F[i]? = some s) : MetW b F i s 0 := { m with here := h, part := fun p hp => by simp at hp }
theorem MetW.skip {b : Book} {F : List Nat} {i s k : Nat} {p : Nat × Nat} (m : MetW b F i s k) (h : (mvs b s)[k]? = some p) (hp : p.2 ∈ F) : MetW b F i s (k + 1) := { m with
  part := fun q hq => by
    rw [List.take_add_one, h] at hq
    rcases List.mem_append.mp hq with hq | hq
    · exact m.part q hq
    · simp at hq
      rw [hq]
      exact hp }
theorem MetW.push {b : Book} {F : List Nat} {i s k : Nat} {p : Nat × Nat} (m : MetW b F i s k) (h : (mvs b s)[k]? = some p) (hp : p.2 ∉ F) (hb : p.2 < b.length) : MetW b (F ++ [p.2]) i s (k + 1) := by
  have old : ∀ {j x : Nat}, F[j]? = some x → (F ++ [p.2])[j]? = some x := fun {j x} e => by
    rw [List.getElem?_append_left (List.getElem?_eq_some_iff.mp e).1]
    exact e
  refine { nd := ?_, zero := old m.zero, lt := fun x hx => ?_, from_ := fun j x e n => ?_, le := ?_, cl := fun j x hj e q hq => ?_, here := old m.here, part := fun q hq => ?_ }
  · rw [List.nodup_append]
    refine ⟨m.nd, by simp, fun a ha c hc => ?_⟩
    simp at hc
    rw [hc]
    exact fun z => hp (z ▸ ha)
  · rcases List.mem_append.mp hx with hx | hx
    · exact m.lt x hx
    · simp at hx
      rw [hx]
      exact hb
  · by_cases hj : j < F.length
    · rw [List.getElem?_append_left hj] at e
      obtain ⟨i', s', h1, h2, h3⟩ := m.from_ j x e n
      exact ⟨i', s', h1, old h2, h3⟩
    · rw [List.getElem?_append_right (by omega)] at e
      have hz : j - F.length = 0 := by
        have := (List.getElem?_eq_some_iff.mp e).1
        simp at this
        omega
      rw [hz] at e
      cases e
      have hi := (List.getElem?_eq_some_iff.mp m.here).1
      exact ⟨i, s, by omega, old m.here, p, List.mem_of_getElem? h, rfl⟩
  · rw [List.length_append]
    have := m.le
    omega
  · have hjF : j < F.length := by
      have := m.le
      omega
    rw [List.getElem?_append_left hjF] at e
    exact List.mem_append_left _ (m.cl j x hj e q hq)
  · rw [List.take_add_one, h] at hq
    rcases List.mem_append.mp hq with hq | hq
    · exact List.mem_append_left _ (m.part q hq)
    · simp at hq
      rw [hq]
      simp
theorem MetW.done {b : Book} {F : List Nat} {i s k : Nat} (m : MetW b F i s k) (hk : (mvs b s).length ≤ k) : MetI b F (i + 1) := { m with
  le := (List.getElem?_eq_some_iff.mp m.here).1
  cl := fun j x hj e q hq => by
    by_cases hji : j < i
    · exact m.cl j x hji e q hq
    · have : j = i := by omega
      subst this
      rw [m.here] at e
      cases e
      exact m.part q (by rw [List.take_of_length_le hk]; exact hq) }
theorem MetI.met {b : Book} {F : List Nat} {i : Nat} (m : MetI b F i) (h : i = F.length ∨ i = b.length) : Met b F := { m with
  cl := fun s hs p hp => by
    obtain ⟨j, hj, e⟩ := List.mem_iff_getElem.mp hs
    have : F.length ≤ i := by
      rcases h with h | h
      · omega
      · rw [h]
        exact nodup_le m.nd m.lt
    exact m.cl j s (by omega) (by rw [List.getElem?_eq_getElem hj, e]) p hp }
end Nv
set_option Elab.async false
set_option linter.all false
set_option maxRecDepth 100000
namespace Nv
open PySem PySem.Spec PyProof.Rows L2
/-! ### the form of a book, of any data -/
def wholeD : PyData → Bool
  | .int _ => true
  | _ => false
def inD (d : PyData) (lo hi : Int) : Bool := match d with
  | .int i => decide (lo ≤ i ∧ i ≤ hi)
  | _ => false
def tupD (d : PyData) (lo hi : Int) : Bool := match d with
  | .tuple ds => decide (lo ≤ (ds.length : Int) ∧ (ds.length : Int) ≤ hi)
  | _ => false
/-- a move's form behind the message last: its message -/
def pairD (last n : Int) (d : PyData) : Option Int := match d with
  | .tuple [.int m, .int t] => if last + 1 ≤ m ∧ m ≤ 99 ∧ 0 ≤ t ∧ t ≤ n - 1 then some m else none
  | _ => none
def pairsD (last n : Int) : List PyData → Bool
  | [] => true
  | d :: r => match pairD last n d with
    | some m => pairsD m n r
    | none => false
def stateD (n : Int) (d : PyData) : Bool := match d with
  | .tuple ds => decide (ds.length ≤ 5) && pairsD (-1) n ds
  | _ => false
def firstBad (n : Int) : List PyData → Nat → Option Int
  | [], _ => none
  | d :: r, i => if stateD n d = true then firstBad n r (i + 1) else some (i : Int)
/-- what BadBook tells of it -/
def formErr (d : PyData) : Option Int := match d with
  | .tuple ds => if 1 ≤ ds.length ∧ ds.length ≤ 8 then firstBad ds.length ds 0 else some (-1)
  | _ => some (-1)
theorem dpAll_len {K : PySem.W.Frag} {H : Hp} : ∀ {vs : List V} {ds : List PyData}, DpAll K H vs ds → vs.length = ds.length
  | _, _, .nil => rfl
  | _, _, .cons _ t => by rw [List.length_cons, List.length_cons, dpAll_len t]
theorem dpAll_get {K : PySem.W.Frag} {H : Hp} : ∀ {vs : List V} {ds : List PyData} {i : Nat} {d : PyData}, DpAll K H vs ds → ds[i]? = some d → ∃ v, vs[i]? = some v ∧ Dp K H v d
  | _, _, _, _, .nil, e => by simp at e
  | _, _, 0, _, .cons r _, e => by cases e; exact ⟨_, rfl, r⟩
  | _, _, i + 1, _, .cons _ t, e => by
    obtain ⟨v, h1, h2⟩ := dpAll_get (i := i) t (by simpa using e)
    exact ⟨v, by simpa using h1, h2⟩
theorem dpAll_get' {K : PySem.W.Frag} {H : Hp} : ∀ {vs : List V} {ds : List PyData} {i : Nat} {v : V}, DpAll K H vs ds → vs[i]? = some v → ∃ d, ds[i]? = some d ∧ Dp K H v d
  | _, _, _, _, .nil, e => by simp at e
  | _, _, 0, _, .cons r _, e => by cases e; exact ⟨_, rfl, r⟩
  | _, _, i + 1, _, .cons _ t, e => by
    obtain ⟨v, h1, h2⟩ := dpAll_get' (i := i) t (by simpa using e)
    exact ⟨v, by simpa using h1, h2⟩
/-- the type of data -/
def tyD : PyData → String
  | .none => "NoneType"
  | .bool _ => "bool"
  | .int _ => "int"
  | .str _ => "str"
  | .list _ => "list"
  | .tuple _ => "tuple"
  | .dict _ => "dict"
theorem SqT.tyT {K : PySem.W.Frag} {H : Hp} {a : Addr} {xs : List V} (h : SqT K H a xs) : TyX K H (.ref a) (.type "tuple") := by
  rcases h with (h | ⟨o, h⟩) | ⟨o, its, n, e, c, _⟩
  · exact .base (.tup h)
  · exact .fTuple h
  · exact .kTuple e c
theorem SqL.tyL {K : PySem.W.Frag} {H : Hp} {a : Addr} {xs : List V} (h : SqL K H a xs) : TyX K H (.ref a) (.type "list") := by
  rcases h with (h | ⟨o, h⟩) | ⟨o, its, n, e, c, _⟩
  · exact .base (.lst h)
  · exact .base (.frz h)
  · exact .kList e c
theorem Dp.ty {K : PySem.W.Frag} {H : Hp} {v : V} {d : PyData} (h : Dp K H v d) : TyX K H v (.type (tyD d)) := by
  cases h with
  | non => exact .base .non
  | bl b => exact .base (.bl b)
  | int i => exact .base (.int i)
  | str x => exact .base (.str x)
  | lst h _ => exact SqL.tyL h
  | tup h _ => exact SqT.tyT h
theorem pairs_cons {last n : Int} {d : PyData} {r : List PyData} : pairsD last n (d :: r) = match pairD last n d with | some m => pairsD m n r | none => false := rfl
end Nv
set_option Elab.async false
set_option linter.all false
set_option maxRecDepth 100000
namespace Nv
open PySem PySem.Spec PyProof.Rows L2
/-! ### written data -/
mutual
theorem Dp.ext0 {K : PySem.W.Frag} {H H' : Hp} (e : Ext [] H H') : ∀ {v : V} {d : PyData}, Dp K H v d → Dp K H' v d
  | _, _, .non => .non
  | _, _, .bl b => .bl b
  | _, _, .int i => .int i
  | _, _, .str x => .str x
  | _, _, .lst h t => .lst (e.frz (by simp) h) (DpAll.ext0 e t)
  | _, _, .tup h t => .tup (e.tup Lsts.nil h) (DpAll.ext0 e t)
theorem DpAll.ext0 {K : PySem.W.Frag} {H H' : Hp} (e : Ext [] H H') : ∀ {vs : List V} {ds : List PyData}, DpAll K H vs ds → DpAll K H' vs ds
  | _, _, .nil => .nil
  | _, _, .cons h t => .cons (Dp.ext0 e h) (DpAll.ext0 e t)
end
theorem peW {X : Cx} {e : Expr} {t t' : TE} (h : PE X e t) (w : ∀ σ H Q, t' σ H Q → t σ H Q) : PE X e t' := ⟨fun pins s σ H Q I q => h.run pins s σ H Q I (w σ H Q q)⟩
theorem paW {X : Cx} {es : List Expr} {t t' : TA} (h : PA X es t) (w : ∀ σ H R, t' σ H R → t σ H R) : PA X es t' := ⟨fun pos pins s σ H R I q => h.run pos pins s σ H R I (w σ H R q)⟩
/-- data told by the slots -/
def tDat (K : PySem.W.Frag) (f : L2.St → Option PyData) : TE := fun σ H Q => ∃ d, f σ = some d ∧ ∀ v H', Ext [] H H' → Dp K H' v d → Q v H'
def tDats (K : PySem.W.Frag) (f : L2.St → Option (List PyData)) : TA := fun σ H R => ∃ ds, f σ = some ds ∧ ds.length ≤ 1000 ∧ ∀ vs H', Ext [] H H' → DpAll K H' vs ds → R vs H'
/-- a new list of data -/
def tDatL (K : PySem.W.Frag) (f : L2.St → Option (List PyData)) : TE := fun σ H Q => ∃ ds, f σ = some ds ∧ ds.length ≤ 1000 ∧ ∀ p vs H', H p = none → H' p = some (.lst vs) → Ext [] H H' → DpAll K H' vs ds → Q (.ref p) H'
def consO (f : L2.St → Option PyData) (g : L2.St → Option (List PyData)) : L2.St → Option (List PyData) := fun σ => match f σ, g σ with
  | some d, some ds => some (d :: ds)
  | _, _ => none
def slotI (i : Nat) (σ : L2.St) : Option PyData := match σ[i]? with
  | some (some (.int n)) => some (.int n)
  | _ => none
theorem slotI_some {i : Nat} {σ : L2.St} {d : PyData} (h : slotI i σ = some d) : ∃ n, σ[i]? = some (some (.int n)) ∧ d = .int n := by
  unfold slotI at h
  split at h
  · rename_i n e
    exact ⟨n, e, (Option.some.inj h).symm⟩
  · cases h
def tupO (g : L2.St → Option (List PyData)) (σ : L2.St) : Option PyData := match g σ with
  | some l => if l.length ≤ 1000 then some (.tuple l) else none
  | none => none
theorem tupO_some {g : L2.St → Option (List PyData)} {σ : L2.St} {d : PyData} (h : tupO g σ = some d) : ∃ l, g σ = some l ∧ l.length ≤ 1000 ∧ d = .tuple l := by
  unfold tupO at h
  split at h
  · rename_i l e
    split at h
    · rename_i hl
      exact ⟨l, e, hl, (Option.some.inj h).symm⟩
    · cases h
  · cases h
theorem consO_some {f : L2.St → Option PyData} {g : L2.St → Option (List PyData)} {σ : L2.St} {l : List PyData} (h : consO f g σ = some l) : ∃ d ds, f σ = some d ∧ g σ = some ds ∧ l = d :: ds := by
  unfold consO at h
  split at h
  · rename_i d ds e1 e2
    exact ⟨d, ds, e1, e2, (Option.some.inj h).symm⟩
  · cases h
section
variable {X : Cx} {K : PySem.W.Frag}
theorem pd_int {i : Int} {j : Nat} {pos : Pos} : PE X (.Constant (.int i) j pos) (tDat K fun _ => some (.int i)) := peW pe_int fun σ H Q ⟨_, e, q⟩ => by cases e; exact q _ H .refl (.int i)
theorem pd_neg {i : Int} {j : Nat} {pos pos' : Pos} : PE X (.UnaryOp .USub (.Constant (.int i) j pos) pos') (tDat K fun _ => some (.int (-i))) := peW (pe_un un_neg pe_int) fun σ H Q ⟨_, e, q⟩ => by cases e; exact ⟨i, rfl, q _ H .refl (.int _)⟩
theorem pd_bool {b : Bool} {j : Nat} {pos : Pos} : PE X (.Constant (.bool b) j pos) (tDat K fun _ => some (.bool b)) := peW pe_bl fun σ H Q ⟨_, e, q⟩ => by cases e; exact q _ H .refl (.bl b)
theorem pd_none {j : Nat} {pos : Pos} : PE X (.Constant .none j pos) (tDat K fun _ => some .none) := peW pe_non fun σ H Q ⟨_, e, q⟩ => by cases e; exact q _ H .refl .non
theorem pd_str {x : Str} {j : Nat} {pos : Pos} : PE X (.Constant (.str x) j pos) (tDat K fun _ => some (.str x)) := peW pe_str fun σ H Q ⟨_, e, q⟩ => by cases e; exact q _ H .refl (.str x)
/-- a slot that holds a number -/
theorem pd_var {e : Expr} {i : Nat} (h : PE X e (tVar i)) : PE X e (tDat K (slotI i)) := peW h fun σ H Q ⟨d, e, q⟩ => by
  obtain ⟨n, hs, rfl⟩ := slotI_some e
  exact ⟨_, hs, q _ H .refl (.int n)⟩
theorem pds_nil : PA X [] (tDats K fun _ => some []) := paW pa_nil fun σ H R ⟨_, e, _, q⟩ => by cases e; exact q [] H .refl .nil
theorem pds_cons {e : Expr} {es : List Expr} {f : L2.St → Option PyData} {g : L2.St → Option (List PyData)} (h : PE X e (tDat K f)) (r : PA X es (tDats K g)) (hs : starEach (e :: es) X.env = (false, eval e X.env) :: starEach es X.env := by rfl) :
    PA X (e :: es) (tDats K (consO f g)) := paW (pa_cons h r hs) fun σ H R ⟨ds, e, hl, q⟩ => by
  obtain ⟨d, l, hf, hg, rfl⟩ := consO_some e
  rw [List.length_cons] at hl
  exact ⟨d, hf, fun v H1 e1 h1 => ⟨l, hg, by omega, fun vs H2 e2 h2 => q (v :: vs) H2 (e1.trans e2) (.cons (Dp.ext0 e2 h1) h2)⟩⟩
theorem pd_tup {es : List Expr} {g : L2.St → Option (List PyData)} {c : Nat} {pos : Pos} (h : PA X es (tDats K g)) : PE X (.Tuple es c pos) (tDat K (tupO g)) :=
  peW (pe_tup h) fun σ H Q ⟨d, e, q⟩ => by
    obtain ⟨l, hg, hl, rfl⟩ := tupO_some e
    refine ⟨l, hg, hl, fun vs H' e1 h1 => ⟨by rw [dpAll_len h1]; exact Nat.le_of_lt (small1000 hl), fun p hp => ?_⟩⟩
    have e2 : Ext [] H' (upd H' p (.tup vs)) := .new hp
    exact q _ _ (e1.trans e2) (.tup (.of upd_same) (DpAll.ext0 e2 h1))
theorem pd_lst {es : List Expr} {g : L2.St → Option (List PyData)} {pos : Pos} (h : PA X es (tDats K g)) : PE X (.List es pos) (tDatL K g) :=
  peW (pe_lst h) fun σ H Q ⟨l, e, hl, q⟩ => ⟨l, e, hl, fun vs H' e1 h1 => ⟨by rw [dpAll_len h1]; exact Nat.le_of_lt (small1000 hl), fun p hp => by
    have e2 : Ext [] H' (upd H' p (.lst vs)) := .new hp
    exact q p vs _ (e1.free hp) upd_same (e1.trans e2) (DpAll.ext0 e2 h1)⟩⟩
end
end Nv
namespace Nv
open PySem PySem.Spec PyProof.Rows L2
theorem DpAll.append {K : PySem.W.Frag} {H : Hp} : ∀ {vs ws : List V} {ds es : List PyData}, DpAll K H vs ds → DpAll K H ws es → DpAll K H (vs ++ ws) (ds ++ es)
  | _, _, _, _, .nil, h => h
  | _, _, _, _, .cons r t, h => .cons r (DpAll.append t h)
theorem DpAll.rep {K : PySem.W.Frag} {H : Hp} {vs : List V} {ds : List PyData} (h : DpAll K H vs ds) : ∀ k : Nat, DpAll K H (List.replicate k vs).flatten (List.replicate k ds).flatten
  | 0 => .nil
  | k + 1 => by
    rw [List.replicate_succ, List.replicate_succ, List.flatten_cons, List.flatten_cons]
    exact DpAll.append h (DpAll.rep h k)
def repO (g : L2.St → Option (List PyData)) (k : Int) (σ : L2.St) : Option PyData := match g σ with
  | some l => if l ≠ [] ∧ l.length ≤ 1000 ∧ 2 ≤ k ∧ k ≤ 1000 then some (.tuple (List.replicate k.toNat l).flatten) else none
  | none => none
theorem pd_rep {X : Cx} {es : List Expr} {g : L2.St → Option (List PyData)} {c j : Nat} {k : Int} {pos p2 p3 : Pos} (h : PA X es (tDats X.K g)) : PE X (.BinOp (.Tuple es c pos) .Mult (.Constant (.int k) j p2) p3) (tDat X.K (repO g k)) :=
  peW (pe_op op_repT (pe_tup h) pe_int) fun σ H Q ⟨d, e, q⟩ => by
    unfold repO at e
    split at e
    · rename_i l hg
      split at e
      · rename_i hc
        obtain ⟨h1, h2, h3, h4⟩ := hc
        cases e
        refine ⟨l, hg, h2, fun vs H' e1 hd => ⟨by rw [dpAll_len hd]; exact Nat.le_of_lt (small1000 h2), fun p hp => ?_⟩⟩
        have e2 : Ext [] H' (upd H' p (.tup vs)) := .new hp
        refine ⟨p, k, vs, rfl, rfl, .of upd_same, fun z => h1 ?_, h3, h4, by rw [dpAll_len hd]; exact h2, fun t ht => ?_⟩
        · have := dpAll_len hd
          rw [z] at this
          exact List.eq_nil_of_length_eq_zero this.symm
        · have e3 := e2.put2 (o := .tup (List.replicate k.toNat vs).flatten) ht
          exact q _ _ (e1.trans e3) (.tup (.of upd_same) (DpAll.rep (DpAll.ext0 e3 hd) k.toNat))
      · cases e
    · cases e
end Nv
namespace Nv
open PySem PySem.Spec PyProof.Rows L2
mutual
def noL : PyData → Bool
  | .list _ => false
  | .tuple ds => noLs ds
  | _ => true
def noLs : List PyData → Bool
  | [] => true
  | d :: r => noL d && noLs r
end
mutual
theorem Dp.extL {K : PySem.W.Frag} {L : List Addr} {H H' : Hp} (e : Ext L H H') (l : Lsts L H) : ∀ {v : V} {d : PyData}, Dp K H v d → noL d = true → Dp K H' v d
  | _, _, .non, _ => .non
  | _, _, .bl b, _ => .bl b
  | _, _, .int i, _ => .int i
  | _, _, .str x, _ => .str x
  | _, _, .lst _ _, h => by simp [noL] at h
  | _, _, .tup h t, n => .tup (e.tup l h) (DpAll.extL e l t (by simpa [noL] using n))
theorem DpAll.extL {K : PySem.W.Frag} {L : List Addr} {H H' : Hp} (e : Ext L H H') (l : Lsts L H) : ∀ {vs : List V} {ds : List PyData}, DpAll K H vs ds → noLs ds = true → DpAll K H' vs ds
  | _, _, .nil, _ => .nil
  | _, _, .cons h t, n => by
    simp only [noLs, Bool.and_eq_true] at n
    exact .cons (Dp.extL e l h n.1) (DpAll.extL e l t n.2)
end
end Nv
set_option Elab.async false
set_option linter.all false
set_option maxRecDepth 100000
namespace Nv
open PySem PySem.Spec PyProof.Rows L2
section
variable {P : Program} {w : World} {K : PySem.W.Frag} {mg : Str → Option Value} {base : Heap}
/-! ### numbers and tuples: the program's checks -/
theorem sc_whole : FnScope ["thing"] ["thing"] (defScope s_whole) := ⟨rfl, rfl, rfl, by decide +kernel, rfl, by decide +kernel, by decide +kernel⟩
def sp_whole : Sp := fun vs H Q _ => ∃ i : Int, vs = [.int i] ∧ Q (.bl true) H
theorem ok_whole (T : Tx K mg) : FnOk P w K mg base CX0 1 T.whole.f T.whole.fd ["thing"] sp_whole := by
  refine T.whole.F.ok sc_whole (fun vs H Q E h => ?_) (fun cdv A outer s H vs Q E hr h => ?_)
  · obtain ⟨i, rfl, _⟩ := h; rfl
  · obtain ⟨i, rfl, q⟩ := h
    refine ⟨_, (pss_one (ps_ret (pe_and (pe_callB call_isi (by rfl) T.n_isinstance (by decide +kernel) (pa_cons (pv 0) (pa_cons (pe_bltn (v := .ty "int") (by rfl) T.n_int (by decide +kernel) rfl) pa_nil))) (pe_one (pe_not (pe_callB call_isi (by rfl) T.n_isinstance (by decide +kernel) (pa_cons (pv 0) (pa_cons (pe_bltn (v := .ty "bool") (by rfl) T.n_bool (by decide +kernel) rfl) pa_nil)))))))), ?_⟩
    refine ⟨_, rfl, _, _, _, _, _, rfl, .ty _, .base (.int i), kit_ty (b := "int") (r := true) (by decide +kernel), true, rfl, iteT ⟨_, rfl, _, _, _, _, _, rfl, .ty _, .base (.int i), kit_ty (b := "bool") (r := false) (by decide +kernel), false, rfl, q⟩⟩
theorem sc_whole_within : FnScope ["thing", "low", "high"] ["thing", "low", "high"] (defScope s_whole_within) := ⟨rfl, rfl, rfl, by decide +kernel, rfl, by decide +kernel, by decide +kernel⟩
def sp_whole_within : Sp := fun vs H Q _ => ∃ i a b : Int, vs = [.int i, .int a, .int b] ∧ Q (.bl (decide (a ≤ i ∧ i ≤ b))) H
theorem ok_whole_within (T : Tx K mg) : FnOk P w K mg base CX0 2 T.whole_within.f T.whole_within.fd ["thing", "low", "high"] sp_whole_within := by
  refine T.whole_within.F.ok sc_whole_within (fun vs H Q E h => ?_) (fun cdv A outer s H vs Q E hr h => ?_)
  · obtain ⟨i, a, b, rfl, _⟩ := h; rfl
  · obtain ⟨i, a, b, rfl, q⟩ := h
    refine ⟨_, (pss_one (ps_ret (pe_and (pe_call (ok_whole T) (hr.mono (by decide)) (by rfl) T.whole.g T.whole.F.kp T.whole.b .nil pass0 (pa_cons (pv 0) pa_nil)) (pe_one (pe_chain op_le op_le (pv 1) (pv 0) (pv 2)))))), ?_⟩
    refine ⟨_, rfl, i, rfl, true, rfl, iteT ⟨_, rfl, _, rfl, _, _, rfl, rfl, _, rfl, ?_⟩⟩
    by_cases h1 : a ≤ i
    · rw [decide_eq_true h1]
      refine iteT ⟨_, rfl, _, _, rfl, rfl, ?_⟩
      have e : decide (a ≤ i ∧ i ≤ b) = decide (i ≤ b) := by simp [h1]
      rw [e] at q
      exact q
    · rw [decide_eq_false h1]
      have e : decide (a ≤ i ∧ i ≤ b) = false := by simp [h1]
      rw [e] at q
      exact iteF q
theorem sc_tuple_within : FnScope ["thing", "low", "high"] ["thing", "low", "high"] (defScope s_tuple_within) := ⟨rfl, rfl, rfl, by decide +kernel, rfl, by decide +kernel, by decide +kernel⟩
def sp_tuple_within (K : PySem.W.Frag) : Sp := fun vs H Q _ => ∃ (t : Addr) (xs : List V) (a b : Int), vs = [.ref t, .int a, .int b] ∧ SqT K H t xs ∧ TyX K H (.ref t) (.type "tuple") ∧ Q (.bl (decide (a ≤ (xs.length : Int) ∧ (xs.length : Int) ≤ b))) H
theorem ok_tuple_within (T : Tx K mg) : FnOk P w K mg base CX0 1 T.tuple_within.f T.tuple_within.fd ["thing", "low", "high"] (sp_tuple_within K) := by
  refine T.tuple_within.F.ok sc_tuple_within (fun vs H Q E h => ?_) (fun cdv A outer s H vs Q E hr h => ?_)
  · obtain ⟨t, xs, a, b, rfl, _⟩ := h; rfl
  · obtain ⟨t, xs, a, b, rfl, ht, ty, q⟩ := h
    refine ⟨_, (pss_one (ps_ret (pe_and (pe_callB call_isi (by rfl) T.n_isinstance (by decide +kernel) (pa_cons (pv 0) (pa_cons (pe_bltn (v := .ty "tuple") (by rfl) T.n_tuple (by decide +kernel) rfl) pa_nil))) (pe_one (pe_chain op_le op_le (pv 1) (pe_callB call_len_seq (by rfl) T.n_len PySem.boot_len (pa_cons (pv 0) pa_nil)) (pv 2)))))), ?_⟩
    refine ⟨_, rfl, _, _, _, _, _, rfl, .ty _, ty, kit_ty (b := "tuple") (r := true) (by decide +kernel), true, rfl, iteT ⟨_, rfl, _, rfl, t, xs, rfl, .inr ht, _, _, rfl, rfl, _, rfl, ?_⟩⟩
    by_cases h1 : a ≤ (xs.length : Int)
    · rw [decide_eq_true h1]
      refine iteT ⟨_, rfl, _, _, rfl, rfl, ?_⟩
      have e : decide (a ≤ (xs.length : Int) ∧ (xs.length : Int) ≤ b) = decide ((xs.length : Int) ≤ b) := by simp [h1]
      rw [e] at q
      exact q
    · rw [decide_eq_false h1]
      have e : decide (a ≤ (xs.length : Int) ∧ (xs.length : Int) ≤ b) = false := by simp [h1]
      rw [e] at q
      exact iteF q
theorem SqT.ty {K : PySem.W.Frag} {H : Hp} {a : Addr} {xs : List V} (h : SqT K H a xs) : TyX K H (.ref a) (.type "tuple") := by
  rcases h with (h | ⟨o, h⟩) | ⟨o, its, n, e, c, _⟩
  · exact .base (.tup h)
  · exact .fTuple h
  · exact .kTuple e c
/-! ### the law's draws -/
/-- the pool at p, its list at l -/
def PoolAt (H : Hp) (p l : Addr) : Prop := p ≠ l ∧ ∃ (x y : Int) (ns : List Int), H p = some (.lst [.int x, .int y, .ref l]) ∧ H l = some (.lst (ns.map V.int)) ∧ 0 ≤ x ∧ 0 ≤ y ∧ y < 4294967296 ∧ ns.length ≤ 63
theorem PoolAt.lsts {H : Hp} {p l : Addr} (h : PoolAt H p l) : Lsts [p, l] H := by
  obtain ⟨_, x, y, ns, h1, h2, _⟩ := h
  exact two_lsts h1 h2
theorem PoolAt.ext {H H' : Hp} {p l : Addr} {L : List Addr} (h : PoolAt H p l) (e : Ext L H H') (h1 : p ∉ L) (h2 : l ∉ L) : PoolAt H' p l := by
  obtain ⟨n, x, y, ns, a, b, r⟩ := h
  exact ⟨n, x, y, ns, e _ _ h1 a, e _ _ h2 b, r⟩
theorem PoolAt.ext0 {H H' : Hp} {p l : Addr} (h : PoolAt H p l) (e : Ext [] H H') : PoolAt H' p l := h.ext e (by simp) (by simp)
theorem sc_law_pool : FnScope ["script", "first", "size"] ["script"] (defScope s_law_pool) := ⟨rfl, rfl, rfl, by decide +kernel, rfl, by decide +kernel, by decide +kernel⟩
def sp_law_pool (K : PySem.W.Frag) : Sp := fun vs H Q _ => ∃ (a : Addr) (ns : List Int), vs = [.ref a] ∧ SqL K H a (ns.map V.int) ∧ ns.length ≤ 63 ∧ ∀ (p l : Addr) (H' : Hp), H p = none → H l = none → PoolAt H' p l → Ext [] H H' → Q (.ref p) H'
theorem ok_law_pool (T : Tx K mg) : FnOk P w K mg base CX0 1 T.law_pool.f T.law_pool.fd ["script"] (sp_law_pool K) := by
  refine T.law_pool.F.ok sc_law_pool (fun vs H Q E h => ?_) (fun cdv A outer s H vs Q E hr h => ?_)
  · obtain ⟨a, ns, rfl, _⟩ := h; rfl
  · obtain ⟨a, ns, rfl, hS, hl, q⟩ := h
    refine ⟨_, (C8.pss_cut (ps_set (i := 1) sc_law_pool.nd rfl (.inl rfl) (pe_mid (pe_ifExp (pt_cmpR op_gt (pe_callB call_len_seq (by rfl) T.n_len PySem.boot_len (pa_cons (pv 0) pa_nil)) pe_int (nomark _)) (pe_callTy call_int1 (by rfl) T.n_int (by decide +kernel) (pa_cons (pe_ix ix_list (pv 0) pe_int (fun _ _ => rfl)) pa_nil)) pe_int)))
      (C8.pss_cut (ps_set (i := 2) sc_law_pool.nd rfl (.inl rfl) (pe_mid (pe_ifExp (pt_cmpR op_ge (pv 1) pe_int (nomark _)) (pe_op op_mul pe_int (pv 1)) (pe_op op_sub (pe_un un_neg pe_int) (pe_op op_mul pe_int (pv 1))))))
      (pss_one (ps_ret (pe_lst (pa_cons (pe_mid (pe_ifExp (pt_cmpR op_ge (pv 2) (pe_op op_pow pe_int pe_int) (nomark _)) (pv 2) pe_int)) (pa_cons (pe_op op_add (pe_op op_mod (pe_callTy call_int1 (by rfl) T.n_int (by decide +kernel) (pa_cons (pe_op op_add (pe_op op_mul (pv 2) pe_int) pe_int) pa_nil)) pe_int) pe_int) (pa_cons (pe_callTy call_list_of (by rfl) T.n_list (by decide +kernel) (pa_cons (pe_slice sl_list (pv 0) (po_some pe_int) po_none) pa_nil)) pa_nil)))))))), ?_⟩
    refine ⟨fun σ' H' => H' = H ∧ ∃ i : Int, σ' = [some (.ref a), some (.int i), none], ?_, ?_⟩
    · refine ⟨fun v H' => H' = H ∧ ∃ i : Int, v = .int i, ?_, ?_⟩
      · refine ⟨_, rfl, a, _, rfl, .inl hS, _, _, rfl, rfl, _, rfl, ite2 (fun e => ?_) (fun e => ?_)⟩
        · cases ns with
          | nil => simp at e
          | cons n r => exact ⟨_, rfl, _, _, _, _, rfl, rfl, hS, atI_nat (j := 0) rfl, .inl ⟨_, rfl, rfl, _, rfl⟩⟩
        · exact ⟨rfl, _, rfl⟩
      · rintro v H' ⟨rfl, i, rfl⟩
        exact ⟨rfl, i, rfl⟩
    · rintro σ' H' ⟨rfl, i, rfl⟩
      refine ⟨fun σ' H1 => H1 = H' ∧ ∃ z : Int, 0 ≤ z ∧ σ' = [some (.ref a), some (.int i), some (.int z)], ?_, ?_⟩
      · refine ⟨fun v H1 => H1 = H' ∧ ∃ z : Int, 0 ≤ z ∧ v = .int z, ?_, ?_⟩
        · refine ⟨_, rfl, _, _, rfl, rfl, _, rfl, ite2 (fun e => ?_) (fun e => ?_)⟩
          · have e := of_decide_eq_true e
            exact ⟨_, rfl, _, _, rfl, rfl, .inl ⟨by decide, by decide⟩, rfl, _, by omega, rfl⟩
          · have e : ¬ (0 ≤ i) := fun z => e (decide_eq_true z)
            exact ⟨_, rfl, _, rfl, _, _, rfl, rfl, .inl ⟨by decide, by decide⟩, _, _, rfl, rfl, rfl, _, by omega, rfl⟩
        · rintro v H1 ⟨rfl, z, hz, rfl⟩
          exact ⟨rfl, z, hz, rfl⟩
      · rintro σ' H1 ⟨rfl, z, hz, rfl⟩
        have ym : 0 ≤ (z * 48271 + 1009) % 2147483629 + 3 ∧ (z * 48271 + 1009) % 2147483629 + 3 < 4294967296 := by omega
        refine ⟨fun v H' => H' = H1 ∧ ∃ x : Int, 0 ≤ x ∧ v = .int x, ?_, ?_⟩
        · refine ⟨_, rfl, _, _, rfl, rfl, ⟨by decide, by decide, by decide⟩, _, _, rfl, rfl, _, rfl, ite2 (fun e => ?_) (fun e => ?_)⟩
          · exact ⟨_, rfl, rfl, z, hz, rfl⟩
          · exact ⟨rfl, 0, by omega, rfl⟩
        · rintro v H' ⟨rfl, x, hx, rfl⟩
          refine ⟨_, rfl, _, _, rfl, rfl, .inr ⟨by decide, by decide⟩, _, _, rfl, rfl, .inl ⟨_, rfl, _, _, rfl, rfl, (by show (0:Int) < 2147483629; decide), _, _, rfl, rfl, ?_⟩⟩
          refine ⟨.ref a, rfl, 1, rfl, a, _, rfl, hS, fun c hc => ⟨c, _, rfl, .inl (.of upd_same), fun l hl0 => ⟨(by show 3 ≤ sizeLine; decide), fun p hp => ?_⟩⟩⟩
          have s1 : Ext [] H' (upd H' c (.lst (cutV (ns.map V.int) (some 1) none))) := .new hc
          have s2 := s1.trans (Ext.new (L := []) (o := .lst (cutV (ns.map V.int) (some 1) none)) hl0)
          have pl : p ≠ l := fun e => by rw [e, upd_same] at hp; cases hp
          have cut : ∃ ms : List Int, cutV (ns.map V.int) (some 1) none = ms.map V.int ∧ ms.length ≤ 63 := by
            unfold cutV
            exact ⟨(ns.drop _).take _, by rw [List.map_take, List.map_drop], by rw [List.length_take, List.length_drop]; omega⟩
          obtain ⟨ms, em, hm⟩ := cut
          refine q p l _ (s2.free hp) (s1.free hl0) ⟨pl, x, _, ms, upd_same, ?_, hx, ym.1, ym.2, hm⟩ (s2.trans (.new hp))
          rw [upd_ne pl.symm, upd_same, em]
theorem sc_law_draw : FnScope ["pool", "many", "cell", "size", "found"] ["pool", "many"] (defScope s_law_draw) := ⟨rfl, rfl, rfl, by decide +kernel, rfl, by decide +kernel, by decide +kernel⟩
def sp_law_draw : Sp := fun vs H Q _ => ∃ (p l : Addr) (m : Int), vs = [.ref p, .int m] ∧ PoolAt H p l ∧ 0 < m ∧ m < 1073741824 ∧ ∀ (r : Int) (H' : Hp), 0 ≤ r → r < m → PoolAt H' p l → Ext [p, l] H H' → Q (.int r) H'
theorem ok_law_draw (T : Tx K mg) : FnOk P w K mg base CX0 1 T.law_draw.f T.law_draw.fd ["pool", "many"] sp_law_draw := by
  refine T.law_draw.F.ok sc_law_draw (fun vs H Q E h => ?_) (fun cdv A outer s H vs Q E hr h => ?_)
  · obtain ⟨p, l, m, rfl, _⟩ := h; rfl
  · obtain ⟨p, l, m, rfl, hP, hm, hm2, q⟩ := h
    refine ⟨_, (C8.pss_cut (ps_if (PW.pt (pw_and (pt_cmpR op_eq (pe_ix ix_list (pv 0) pe_int (fun _ _ => rfl)) pe_int (nomark _)) (pw_and1 (pt_cmpR (op_neD (hr.units)) (pe_ix ix_list (pv 0) pe_int (fun _ _ => rfl)) (pe_lst pa_nil) (nomark _)))))
        (pss_cons (ps_set (i := 2) sc_law_draw.nd rfl (.inl rfl) (pe_callTy call_int1 (by rfl) T.n_int (by decide +kernel) (pa_cons (pe_bm PySem.F.plainAttrs_list PySem.F.slot_list_pop PySem.F.type_list_pop mt_popAt (pe_ix ix_list (pv 0) pe_int (fun _ _ => rfl)) (pa_cons pe_int pa_nil)) pa_nil)))
        (pss_cons (ps_set (i := 3) sc_law_draw.nd rfl (.inl rfl) (pe_mid (pe_ifExp (pt_cmpR op_ge (pv 2) pe_int (nomark _)) (pe_op op_mul pe_int (pv 2)) (pe_op op_sub (pe_un un_neg pe_int) (pe_op op_mul pe_int (pv 2))))))
        (pss_cons (ps_asg (pe_mid (pe_ifExp (pt_cmpR op_ge (pv 3) (pe_op op_pow pe_int pe_int) (nomark _)) (pv 3) pe_int)) (pg_sub (pv 0) pe_int set_list))
        (pss_one (ps_asg (pe_op op_add (pe_op op_mod (pe_callTy call_int1 (by rfl) T.n_int (by decide +kernel) (pa_cons (pe_op op_add (pe_ix ix_list (pv 0) pe_int (fun _ _ => rfl)) (pe_op op_mul (pv 3) pe_int)) pa_nil)) pe_int) pe_int) (pg_sub (pv 0) pe_int set_list))))))
        pss_nil)
      (pss_cons (ps_if (pt_cmpR op_gt (pe_ix ix_list (pv 0) pe_int (fun _ _ => rfl)) pe_int (nomark _))
        (pss_cons (ps_set (i := 4) sc_law_draw.nd rfl (.inl rfl) (pe_op op_mod (pe_callTy call_int1 (by rfl) T.n_int (by decide +kernel) (pa_cons (pe_ix ix_list (pv 0) pe_int (fun _ _ => rfl)) pa_nil)) (pv 1)))
        (pss_cons (ps_asg (pe_op op_fdiv (pe_ix ix_list (pv 0) pe_int (fun _ _ => rfl)) (pv 1)) (pg_sub (pv 0) pe_int set_list))
        (pss_one (ps_ret (pv 4)))))
        pss_nil)
      (pss_cons (ps_asg (pe_op op_mod (pe_callTy call_int1 (by rfl) T.n_int (by decide +kernel) (pa_cons (pe_op op_add (pe_op op_mul (pe_ix ix_list (pv 0) pe_int (fun _ _ => rfl)) pe_int) pe_int) pa_nil)) pe_int) (pg_sub (pv 0) pe_int set_list))
      (pss_one (ps_ret (pe_op op_mod (pe_op op_fdiv (pe_op op_mod (pe_callTy call_int1 (by rfl) T.n_int (by decide +kernel) (pa_cons (pe_op op_mul (pe_ix ix_list (pv 0) pe_int (fun _ _ => rfl)) (pe_ix ix_list (pv 0) pe_int (fun _ _ => rfl))) pa_nil)) pe_int) pe_int) (pv 1))))))), ?_⟩
    obtain ⟨npl, x, y, ns, hp, hl, hx, hy, hy2, hn⟩ := id hP
    refine ⟨fun σ' H' => PoolAt H' p l ∧ Ext [p, l] H H' ∧ ∃ a b c, σ' = [some (.ref p), some (.int m), a, b, c], ?_, ?_⟩
    · refine ⟨_, rfl, _, _, _, _, rfl, rfl, .of hp, atI_nat (j := 0) rfl, rfl, _, rfl, ite2 (fun e => ?_) (fun e => ?_)⟩
      · refine ⟨_, rfl, _, _, _, _, rfl, rfl, .of hp, atI_nat (j := 2) rfl, by decide, fun c hc => ?_⟩
        have s1 : Ext [] H (upd H c (.lst [])) := .new hc
        refine ⟨_, _, .lst (.of (s1.at hl (by simp))) (dp_ints ns), .lst (.of upd_same) .nil, shaped_ints ns, by decide, _, rfl, ?_⟩
        rw [eqv_nil]
        cases ns with
        | nil =>
          rw [decide_eq_true rfl]
          exact iteF ⟨hP.ext0 s1, s1.weak, _, _, _, rfl⟩
        | cons n r =>
          rw [decide_eq_false (by simp)]
          refine iteT ?_
          have hp1 := s1.at hp (by simp)
          have hl1 := s1.at hl (by simp)
          -- cell
          refine ⟨_, rfl, _, _, _, _, rfl, rfl, .of hp1, atI_nat (j := 2) rfl, .inl ⟨rfl, _, .of hl1⟩, l, _, 0, 0, .int n, rfl, rfl, hl1, by decide, by decide, (by simp [seqIndex?]), rfl, .inl ⟨_, rfl, ?_⟩⟩
          have hp2 : upd (upd H c (.lst [])) l (.lst (((n :: r).map V.int).eraseIdx 0)) p = some (.lst [.int x, .int y, .ref l]) := by rw [upd_ne npl]; exact hp1
          have hl2 : upd (upd H c (.lst [])) l (.lst (((n :: r).map V.int).eraseIdx 0)) l = some (.lst (r.map V.int)) := upd_same
          have s2 : Ext [p, l] H (upd (upd H c (.lst [])) l (.lst (((n :: r).map V.int).eraseIdx 0))) := s1.weak.trans (.wr (by simp))
          generalize upd (upd H c (.lst [])) l (.lst (((n :: r).map V.int).eraseIdx 0)) = H2 at hp2 hl2 s2
          -- size
          refine ⟨fun v H1 => H1 = H2 ∧ ∃ z : Int, 0 ≤ z ∧ v = .int z, ?_, ?_⟩
          · refine ⟨_, rfl, _, _, rfl, rfl, _, rfl, ite2 (fun e => ?_) (fun e => ?_)⟩
            · have e := of_decide_eq_true e
              exact ⟨_, rfl, _, _, rfl, rfl, .inl ⟨by decide, by decide⟩, rfl, _, by omega, rfl⟩
            · have e : ¬ (0 ≤ n) := fun z => e (decide_eq_true z)
              exact ⟨_, rfl, _, rfl, _, _, rfl, rfl, .inl ⟨by decide, by decide⟩, _, _, rfl, rfl, rfl, _, by omega, rfl⟩
          · rintro v H1 ⟨rfl, z, hz, rfl⟩
            -- pool[0]
            refine ⟨fun v H' => H' = H1 ∧ ∃ x : Int, 0 ≤ x ∧ v = .int x, ?_, ?_⟩
            · refine ⟨_, rfl, _, _, rfl, rfl, ⟨by decide, by decide, by decide⟩, _, _, rfl, rfl, _, rfl, ite2 (fun e => ?_) (fun e => ?_)⟩
              · exact ⟨_, rfl, rfl, z, hz, rfl⟩
              · exact ⟨rfl, 0, by omega, rfl⟩
            · rintro v H' ⟨rfl, x2, hx2, rfl⟩
              refine ⟨_, rfl, p, _, 0, 0, rfl, rfl, hp2, rfl, ?_⟩
              -- pool[1]
              refine ⟨_, rfl, _, _, _, _, rfl, rfl, .of upd_same, atI_nat (j := 1) rfl, _, rfl, _, _, rfl, rfl, .inr ⟨by decide, by decide⟩, _, _, rfl, rfl, .inl ⟨_, rfl, _, _, rfl, rfl, (by show (0:Int) < 2147483629; decide), _, _, rfl, rfl, ?_⟩⟩
              refine ⟨_, rfl, p, _, 1, 1, rfl, rfl, upd_same, rfl, ?_⟩
              rw [upd_upd]
              refine ⟨⟨npl, x2, _, r, upd_same, by rw [upd_ne npl.symm]; exact hl2, hx2, ?_, ?_, ?_⟩, s2.trans (.wr (by simp)), _, _, _, rfl⟩
              · omega
              · omega
              · simp at hn; omega
      · exact iteF ⟨hP, .refl, _, _, _, rfl⟩
    · rintro σ' H1 ⟨⟨npl, x, y, ns, hp, hl, hx, hy, hy2, hn⟩, e1, a, b, c, rfl⟩
      refine ⟨_, rfl, _, _, _, _, rfl, rfl, .of hp, atI_nat (j := 0) rfl, _, _, rfl, rfl, _, rfl, ite2 (fun e => ?_) (fun e => ?_)⟩
      · refine ⟨_, rfl, _, _, _, _, rfl, rfl, .of hp, atI_nat (j := 0) rfl, .inl ⟨_, rfl, _, rfl, _, _, rfl, rfl, hm, ?_⟩⟩
        refine ⟨_, rfl, _, _, _, _, rfl, rfl, .of hp, atI_nat (j := 0) rfl, _, rfl, _, _, rfl, rfl, ⟨hm, hm2⟩, _, rfl, p, _, 0, 0, rfl, rfl, hp, rfl, ?_⟩
        refine ⟨_, rfl, q _ _ (Int.emod_nonneg _ (by omega)) (Int.emod_lt_of_pos _ hm) ⟨npl, x / m, y, ns, upd_same, by rw [upd_ne npl.symm]; exact hl, Int.ediv_nonneg hx (by omega), hy, hy2, hn⟩ (e1.trans (.wr (by simp)))⟩
      · refine ⟨_, rfl, _, _, _, _, rfl, rfl, .of hp, atI_nat (j := 1) rfl, _, _, rfl, rfl, .inr ⟨by decide, by decide⟩, _, _, rfl, rfl, .inl ⟨_, rfl, _, _, rfl, rfl, (by show (0:Int) < 2147483647; decide), ?_⟩⟩
        refine ⟨_, rfl, p, _, 1, 1, rfl, rfl, hp, rfl, ?_⟩
        have yb : 0 ≤ (y * 48271 + 11) % 2147483647 ∧ (y * 48271 + 11) % 2147483647 < 2147483647 := by omega
        refine ⟨_, rfl, _, _, _, _, rfl, rfl, .of upd_same, atI_nat (j := 1) rfl, _, rfl, _, _, _, _, rfl, rfl, .of upd_same, atI_nat (j := 1) rfl, _, _, rfl, rfl, .inl ⟨by omega, by omega⟩, .inl ⟨_, rfl, _, _, rfl, rfl, (by show (0:Int) < 2147483629; decide), _, _, rfl, rfl, ⟨by decide, by decide⟩, _, rfl, _, _, rfl, rfl, hm, ?_⟩⟩
        exact q _ _ (Int.emod_nonneg _ (by omega)) (Int.emod_lt_of_pos _ hm) ⟨npl, x, _, ns, upd_same, by rw [upd_ne npl.symm]; exact hl, hx, yb.1, by omega, hn⟩ (e1.trans (.wr (by simp)))
theorem sc_law_pick : FnScope ["pool", "things"] ["pool", "things"] (defScope s_law_pick) := ⟨rfl, rfl, rfl, by decide +kernel, rfl, by decide +kernel, by decide +kernel⟩
def sp_law_pick (K : PySem.W.Frag) : Sp := fun vs H Q _ => ∃ (p l t : Addr) (xs : List V), vs = [.ref p, .ref t] ∧ PoolAt H p l ∧ SqL K H t xs ∧ t ≠ p ∧ t ≠ l ∧ 0 < xs.length ∧ xs.length < 1000 ∧ ∀ (i : Nat) (v : V) (H' : Hp), xs[i]? = some v → PoolAt H' p l → Ext [p, l] H H' → Q v H'
theorem ok_law_pick (T : Tx K mg) : FnOk P w K mg base CX0 2 T.law_pick.f T.law_pick.fd ["pool", "things"] (sp_law_pick K) := by
  refine T.law_pick.F.ok sc_law_pick (fun vs H Q E h => ?_) (fun cdv A outer s H vs Q E hr h => ?_)
  · obtain ⟨p, l, t, xs, rfl, _⟩ := h; rfl
  · obtain ⟨p, l, t, xs, rfl, hP, hS, n1, n2, h0, h1, q⟩ := h
    refine ⟨_, (pss_one (ps_ret (pe_ix ix_list (pv 1) (pe_call (ok_law_draw T) (hr.mono (by decide)) (by rfl) T.law_draw.g T.law_draw.F.kp T.law_draw.b .nil pass0 (pa_cons (pv 0) (pa_cons (pe_callB call_len_seq (by rfl) T.n_len PySem.boot_len (pa_cons (pv 1) pa_nil)) pa_nil))) (fun _ _ => rfl)))), ?_⟩
    refine ⟨_, rfl, _, rfl, _, rfl, t, xs, rfl, .inl hS, p, l, _, rfl, hP, by omega, by omega, fun r H' r0 r1 hP' e => ?_⟩
    obtain ⟨i, rfl⟩ : ∃ i : Nat, r = (i : Int) := ⟨r.toNat, by omega⟩
    have hi : i < xs.length := by omega
    exact ⟨t, xs, _, xs[i], rfl, rfl, e.frz (by simp [n1, n2]) hS, atI_nat (List.getElem?_eq_getElem hi), q i _ _ (List.getElem?_eq_getElem hi) hP' e⟩
end
end Nv
set_option Elab.async false
set_option linter.all false
set_option maxRecDepth 100000
namespace Nv
open PySem PySem.Spec PyProof.Rows L2
section
variable {P : Program} {w : World} {K : PySem.W.Frag} {mg : Str → Option Value} {base : Heap}
/-! ### the law's books: meeting -/
theorem sc_law_book_meeting : FnScope ["moves", "found", "at", "message", "to", "state"] ["moves"] (defScope s_law_book_meeting) := ⟨rfl, rfl, rfl, by decide +kernel, rfl, by decide +kernel, by decide +kernel⟩
def sp_law_book_meeting (K : PySem.W.Frag) : Sp := fun vs H Q _ => ∃ (m : V) (b : Book), vs = [m] ∧ LbV K H m b ∧ 1 ≤ b.length ∧ b.length ≤ 1000 ∧ (∀ s, (mvs b s).length ≤ 1000 ∧ ∀ p ∈ mvs b s, p.2 < b.length) ∧ ∀ (F : List Nat) (v : V) (H' : Hp), Met b F → BkV K H' v (rename b F) → Ext [] H H' → Q v H'
theorem ok_law_book_meeting (T : Tx K mg) : FnOk P w K mg base CX0 1 T.law_book_meeting.f T.law_book_meeting.fd ["moves"] (sp_law_book_meeting K) := by
  refine T.law_book_meeting.F.ok sc_law_book_meeting (fun vs H Q E h => ?_) (fun cdv A outer s H vs Q E hr h => ?_)
  · obtain ⟨m, b, rfl, _⟩ := h; rfl
  · obtain ⟨_, b, rfl, ⟨m, ls, rfl, hm, hls⟩, h1, h2, hto, q⟩ := h
    have llen : ls.length = b.length := Paired.len hls
    refine ⟨_, (pss_cons (ps_set (i := 1) sc_law_book_meeting.nd rfl (.inr rfl) (pe_lst (pa_cons pe_int pa_nil)))
      (C8.pss_cut (ps_for PassesOwn.never rfl (pi_range1 (by rfl) T.n_range (pa_cons (pe_callB call_len_seq (by rfl) T.n_len PySem.boot_len (pa_cons (pv 0) pa_nil)) pa_nil)) (pg_name (i := 2) sc_law_book_meeting.nd rfl (.inl rfl))
        (pss_cons (ps_if (pt_cmpR op_eq (pv 2) (pe_callB call_len_seq (by rfl) T.n_len PySem.boot_len (pa_cons (pv 1) pa_nil)) (nomark _))
          (pss_one ps_break)
          pss_nil)
        (pss_one (ps_for PassesOwn.never rfl (pi_list (pe_ix ix_list (pv 0) (pe_ix ix_list (pv 1) (pv 2) (fun _ _ => rfl)) (fun _ _ => rfl))) (pg_tup rfl (pgs_cons (pg_name (i := 3) sc_law_book_meeting.nd rfl (.inl rfl)) (pgs_cons (pg_name (i := 4) sc_law_book_meeting.nd rfl (.inl rfl)) pgs_nil)))
          (pss_one (ps_if (pt_cmpR op_notIn_seq (pv 4) (pv 1) (by rfl))
            (pss_one (ps_expr (pe_bm PySem.F.plainAttrs_list PySem.F.slot_list_append PySem.F.type_list_append mt_append (pv 1) (pa_cons (pv 4) pa_nil))))
            pss_nil))))))
      (pss_one (ps_ret (pe_callTy call_tupZ (by rfl) T.n_tuple (by decide +kernel) (pa_cons (pe_lc (own := [("state", 5)]) rfl sc_law_book_meeting.nd (pi_list (pv 1)) (blkOk_by (own := [("state", 5)]) (N := ["moves", "found", "at", "message", "to", "state"]) (sc := defScope s_law_book_meeting) (by decide +kernel)) (fun _ _ _ _ _ => (pg_name (i := 5) sc_law_book_meeting.nd rfl (.inl rfl))) (fun _ _ _ _ _ => pts_nil) (fun _ _ _ _ _ => (pe_callTy (call_tupZK K) (by rfl) T.n_tuple (by decide +kernel) (pa_cons (pe_lc (own := [("message", 3), ("to", 4)]) rfl sc_law_book_meeting.nd (pi_listK K (pe_ix (ix_listK K) (pv 0) (pv 5) (fun _ _ => rfl))) (blkOk_by (own := [("message", 3), ("to", 4)]) (by kernel_rfl)) (fun _ _ _ _ _ => (pg_tupK (n := 2) K rfl (pgs_cons (pg_name (i := 3) sc_law_book_meeting.nd rfl (.inl rfl)) (pgs_cons (pg_name (i := 4) sc_law_book_meeting.nd rfl (.inl rfl)) pgs_nil)))) (fun _ _ _ _ _ => pts_nil) (fun _ _ _ _ _ => (pe_tup (pa_cons (pv 3) (pa_cons (pe_bmK K PySem.F.plainAttrs_list PySem.F.slot_list_index PySem.F.type_list_index (mt_indexK K) (pv 1) (pa_cons (pv 4) pa_nil)) pa_nil))))) pa_nil)))) pa_nil)))))), ?_⟩
    -- found = [0]
    refine ⟨(by show 1 ≤ sizeLine; decide), fun f hf => ?_⟩
    have e0 : Ext [] H (upd H f (.lst [.int 0])) := .new hf
    have mf : m ≠ f := ne_of_none hm hf
    refine ⟨fun σ H' => ∃ (F : List Nat) (y2 y3 y4 : Option V), σ = [some (.ref m), some (.ref f), y2, y3, y4, none] ∧ Met b F ∧ Ext [] H H' ∧ H' f = some (.lst (F.map nV)), ?_, ?_⟩
    · refine ⟨_, rfl, m, ls, rfl, .inl (.of (e0.at hm (by simp))), _, rfl, by omega, by omega, for_range (lo := 0) (n := _) (fun i σ H' => ∃ (F : List Nat) (y2 y3 y4 : Option V), σ = [some (.ref m), some (.ref f), y2, y3, y4, none] ∧ MetI b F i ∧ Ext [] H H' ∧ H' f = some (.lst (F.map nV))) ⟨[0], _, _, _, rfl, .first h1, e0, upd_same⟩ ?_ ?_⟩
      · rintro i σ H' hi ⟨F, y2, y3, y4, rfl, mi, e, hF⟩
        simp only [Int.zero_add]
        have hin : i < b.length := by
          have : ((ls.length : Int)).toNat = ls.length := Int.toNat_natCast _
          omega
        -- if at == len(found)
        refine ⟨_, rfl, _, rfl, f, _, rfl, .inl (.of hF), rfl, _, rfl, ?_⟩
        rw [dec_int]
        refine ite2 (fun z => ?_) (fun z => ?_)
        · have z := of_decide_eq_true z
          rw [List.length_map] at z
          exact ⟨F, _, _, _, rfl, mi.met (.inl (by omega)), e, hF⟩
        · have z : ¬ ((i : Int) = ((F.map nV).length : Int)) := fun y => z (decide_eq_true y)
          rw [List.length_map] at z
          have hiF : i < F.length := by have := mi.le; omega
          have hs : F[i]? = some F[i] := List.getElem?_eq_getElem hiF
          generalize F[i] = x at hs
          have hx : x < b.length := mi.lt x (List.mem_of_getElem? hs)
          -- for message, to in moves[found[at]]
          obtain ⟨u, hu, hst⟩ := Paired.get hls (mvs_lt hx)
          obtain ⟨a, ps, rfl, ha, hps⟩ := hst
          refine ⟨_, rfl, _, rfl, _, rfl, f, _, _, _, rfl, rfl, .of hF, atI_nat (at_map hs), m, _, _, _, rfl, rfl, .of (e.at hm (by simp)), atI_nat hu, a, rfl, ⟨_, .of (e.at ha (by simp))⟩, ?_⟩
          have plen : ps.length = (mvs b x).length := Paired.len hps
          refine for_list (K := K) (a := a) (xs := ps.map V.ref) (fun k σ H' => ∃ (F : List Nat) (y3 y4 : Option V), σ = [some (.ref m), some (.ref f), some (.int i), y3, y4, none] ∧ MetW b F i x k ∧ Ext [] H H' ∧ H' f = some (.lst (F.map nV))) ⟨F, _, _, rfl, mi.begin hs, e, hF⟩ (fun k σ H' _ ⟨_, _, _, _, _, e, _⟩ => .of (e.at ha (by simp))) ?_ ?_
          · rintro k v σ H' hv ⟨F, y3, y4, rfl, mw, e, hF⟩
            obtain ⟨c, hc, rfl⟩ := map_at hv
            obtain ⟨p, hp, hcp⟩ := Paired.get' hps hc
            have hcp := hcp.ext0 e
            refine ⟨c, _, rfl, hcp, rfl, _, _, rfl, _, _, rfl, rfl, ?_⟩
            refine ⟨_, rfl, _, rfl, f, _, rfl, .inl (.of hF), rfl, flat_nV F, _, rfl, ?_⟩
            have pb : p.2 < b.length := (hto x).2 p (List.mem_of_getElem? hp)
            rw [show inV (V.int (p.2 : Int)) (F.map nV) = decide (p.2 ∈ F) from inV_nV p.2 F]
            by_cases hin : p.2 ∈ F
            · rw [decide_eq_true hin]
              exact iteF ⟨F, _, _, rfl, mw.skip hp hin, e, hF⟩
            · rw [decide_eq_false hin]
              have hl1000 : F.length ≤ 1000 := Nat.le_trans (nodup_le mw.nd mw.lt) h2
              refine iteT ⟨_, rfl, .inl ⟨rfl, _, .of hF⟩, _, rfl, f, _, _, rfl, rfl, hF, by rw [List.length_map]; exact small1000 hl1000, F ++ [p.2], _, _, rfl, mw.push hp hin pb, e.put hf, ?_⟩
              rw [upd_same, List.map_append]
              rfl
          · rintro σ H' ⟨F, y3, y4, rfl, mw, e, hF⟩
            exact ⟨F, _, _, _, rfl, mw.done (by rw [List.length_map, plen]; exact Nat.le_refl _), e, hF⟩
      · rintro σ H' ⟨F, y2, y3, y4, rfl, mi, e, hF⟩
        exact ⟨F, _, _, _, rfl, mi.met (.inr (by rw [Int.toNat_natCast, llen])), e, hF⟩
    · rintro σ H1 ⟨F, y2, y3, y4, rfl, mt, e1, hF⟩
      have hl1000 : F.length ≤ 1000 := Nat.le_trans (nodup_le mt.nd mt.lt) h2
      -- the new book
      refine ⟨_, rfl, f, rfl, ⟨_, .of hF⟩, fun D hD => ?_⟩
      have fD : f ≠ D := ne_of_none hF hD
      have hDH : H D = none := e1.free hD
      refine lc_list (K := K) (a := f) (xs := F.map nV) (fun i H' => ∃ vs : List V, H' D = some (.lst vs) ∧ Paired (StV K H') vs ((rename b F).take i) ∧ Ext [] H H' ∧ H' f = some (.lst (F.map nV))) ⟨[], upd_same, .nil, e1.put2 hD, by rw [upd_ne fD]; exact hF⟩ (fun i H' _ ⟨_, _, _, _, h⟩ => .of h) ?_ ?_
      · rintro i v H' hv ⟨vs, hDv, hpd, e, hF'⟩
        obtain ⟨x, hx, rfl⟩ := map_at hv
        have hxb : x < b.length := mt.lt x (List.mem_of_getElem? hx)
        obtain ⟨u, hu, a, ps, rfl, ha, hps⟩ := Paired.get hls (mvs_lt hxb)
        have plen : ps.length = (mvs b x).length := Paired.len hps
        refine ⟨rfl, yes ?_⟩
        refine ⟨_, rfl, _, rfl, m, _, _, _, rfl, rfl, .of (e.at hm (by simp)), atI_nat hu, a, rfl, ⟨_, .of (e.at ha (by simp))⟩, fun D2 hD2 => ?_⟩
        have hD2H : H D2 = none := e.free hD2
        have n1 : D ≠ D2 := ne_of_none hDv hD2
        have n2 : f ≠ D2 := ne_of_none hF' hD2
        refine lc_list (K := K) (a := a) (xs := ps.map V.ref) (fun k H2 => ∃ qs : List Addr, H2 D2 = some (.lst (qs.map V.ref)) ∧ Paired (MvV K H2) qs (((mvs b x).take k).map fun p => (p.1, F.idxOf p.2)) ∧ Ext [] H' H2) ⟨[], upd_same, .nil, .new hD2⟩ (fun k H2 _ ⟨_, _, _, e2⟩ => .of ((e.trans e2).at ha (by simp))) ?_ ?_
        · rintro k v H2 hv ⟨qs, hq, hqp, e2⟩
          obtain ⟨c, hc, rfl⟩ := map_at hv
          obtain ⟨p, hp, hcp⟩ := Paired.get' hps hc
          have hcp := hcp.ext0 (e.trans e2)
          have hF2 := e2.at hF' (by simp)
          have pin : p.2 ∈ F := mt.cl x (List.mem_of_getElem? hx) p (List.mem_of_getElem? hp)
          have hidx : F.idxOf p.2 < F.length := List.idxOf_lt_length_of_mem pin
          refine ⟨c, _, rfl, hcp, rfl, _, _, rfl, _, _, rfl, rfl, rfl, yes ?_⟩
          refine ⟨_, rfl, _, rfl, .inl ⟨rfl, _, .of hF2⟩, _, rfl, f, _, _, F.idxOf p.2, nV p.2, rfl, rfl, .of hF2, rfl, flat_nV F, ?_, by rw [show V.int (p.2 : Int) = nV p.2 from rfl, eqV_nV]; simp, ?_, ?_⟩
          · exact at_map (by rw [List.getElem?_eq_getElem hidx, List.getElem_idxOf])
          · intro j z hj hz
            obtain ⟨y, hy, rfl⟩ := map_at hz
            rw [show V.int (p.2 : Int) = nV p.2 from rfl, eqV_nV]
            refine decide_eq_false fun ey => ?_
            subst ey
            have := idx_of mt.nd hy
            omega
          · refine ⟨(by show 2 ≤ sizeLine; decide), fun t ht => ?_⟩
            have tD2 : D2 ≠ t := ne_of_none hq ht
            have e3 : Ext [] H2 (upd H2 t (.tup [.int p.1, .int (F.idxOf p.2 : Nat)])) := .new ht
            refine ⟨_, e3.at hq (by simp), ?_, qs ++ [t], by rw [upd_same, List.map_append]; rfl, ?_, (e2.trans e3).put hD2⟩
            · rw [List.length_map, Paired.len hqp, List.length_map, List.length_take]
              exact small1000 (Nat.le_trans (Nat.min_le_right _ _) (hto x).1)
            · rw [List.take_add_one, hp, List.map_append]
              refine Paired.snoc ?_ (Paired.imp hqp fun _ _ z => (z.ext0 e3).put (e3.at hq (by simp)))
              exact MvV.put (m := (p.1, F.idxOf p.2)) (.of upd_same) (e3.at hq (by simp))
        · rintro H2 ⟨qs, hq, hqp, e2⟩
          have ek : (mvs b x).take (ps.map V.ref).length = mvs b x := List.take_of_length_le (by rw [List.length_map, plen]; exact Nat.le_refl _)
          rw [ek] at hqp
          refine ⟨D2, _, rfl, .of hq, fun t H3 ht hH3 => ?_⟩
          obtain ⟨o, od, rfl⟩ := hH3
          have e3 : Ext [] H2 (upd H2 t (.frz o (.tup (qs.map V.ref)))) := .new ht
          have e4 := e2.trans e3
          refine ⟨vs, e4.at hDv (by simp), ?_, vs ++ [.ref t], upd_same, ?_, (e.trans e4).put hDH, by rw [upd_ne fD]; exact e4.at hF' (by simp)⟩
          · rw [Paired.len hpd, List.length_take]
            exact small1000 (Nat.le_trans (Nat.min_le_right _ _) (by rw [rename_len]; exact hl1000))
          · have hr' : (rename b F)[i]? = some ((mvs b x).map fun p => (p.1, F.idxOf p.2)) := by
              unfold rename
              rw [List.getElem?_map, hx]
              rfl
            rw [List.take_add_one, hr']
            have hDe := e4.at hDv (by simp)
            refine Paired.snoc ?_ (Paired.imp hpd fun _ _ z => (z.ext0 e4).put hDe)
            exact StV.put ⟨t, qs, rfl, ⟨o, upd_same, od⟩, Paired.imp hqp fun _ _ z => z.ext0 e3⟩ hDe
      · rintro H' ⟨vs, hDv, hpd, e, hF'⟩
        refine ⟨D, vs, rfl, .of hDv, fun t H3 ht hH3 => ?_⟩
        obtain ⟨o, od, rfl⟩ := hH3
        have e3 : Ext [] H' (upd H' t (.frz o (.tup vs))) := .new ht
        have ek : (rename b F).take (F.map nV).length = rename b F := List.take_of_length_le (by rw [List.length_map, rename_len]; exact Nat.le_refl _)
        rw [ek] at hpd
        exact q F _ _ mt ⟨t, vs, rfl, .inl (.inr ⟨o, upd_same⟩), Paired.imp hpd fun _ _ z => z.ext0 e3⟩ (e.trans e3)
end
end Nv
set_option Elab.async false
set_option linter.all false
set_option maxRecDepth 100000
namespace Nv
open PySem PySem.Spec PyProof.Rows L2
section
variable {P : Program} {w : World} {K : PySem.W.Frag} {mg : Str → Option Value} {base : Heap}
/-! ### the law's books: messages -/
theorem seqAt {k n : Nat} (h : k < n) : seqIndex? (k : Int) n = some k := by
  unfold seqIndex?
  have h1 : ¬ ((k : Int) < 0) := by omega
  have h2 : (0 : Int) ≤ k := by omega
  have h3 : (k : Int) < n := by omega
  simp [h1, h2, h3]
theorem sorted_nats {F : List Nat} {ns : List Int} (nd : F.Nodup) (p : ns.Perm (F.map fun n : Nat => (n : Int))) (r : ns.Pairwise (· ≤ ·)) : ∃ ms : List Nat, ns.map V.int = ms.map nV ∧ ms.Perm F ∧ ms.Pairwise (· < ·) := by
  have nn : ∀ z ∈ ns, ∃ n : Nat, z = (n : Int) := fun z hz => by
    obtain ⟨n, _, rfl⟩ := List.mem_map.mp (p.mem_iff.mp hz)
    exact ⟨n, rfl⟩
  have nd2 : ns.Nodup := by
    rw [p.nodup_iff]
    refine List.Pairwise.map _ (fun a b h e => h ?_) nd
    exact Int.ofNat.inj e
  have r2 := lt_of_le_nodup ns r nd2
  refine ⟨ns.map Int.toNat, ?_, ?_, ?_⟩
  · rw [List.map_map]
    refine List.map_congr_left fun z hz => ?_
    obtain ⟨n, rfl⟩ := nn z hz
    rfl
  · have q := p.map Int.toNat
    rw [List.map_map] at q
    have e : F.map (Int.toNat ∘ fun n : Nat => (n : Int)) = F := by
      conv => rhs; rw [← List.map_id F]
      exact List.map_congr_left fun z _ => rfl
    rw [e] at q
    exact q
  · rw [List.pairwise_map]
    refine List.Pairwise.imp_of_mem (fun {a b} ha hb h => ?_) r2
    obtain ⟨n, rfl⟩ := nn a ha
    obtain ⟨m, rfl⟩ := nn b hb
    simp
    omega
theorem map_nV_int (F : List Nat) : F.map nV = (F.map fun n : Nat => (n : Int)).map V.int := by rw [List.map_map]; rfl
theorem rgV_nV (n : Nat) : rgV 0 (n : Int) = (List.range n).map nV := by
  unfold rgV
  simp
theorem sc_law_book_messages : FnScope ["pool", "count", "way", "top", "left", "found", "turn"] ["pool", "count"] (defScope s_law_book_messages) := ⟨rfl, rfl, rfl, by decide +kernel, rfl, by decide +kernel, by decide +kernel⟩
def sp_law_book_messages : Sp := fun vs H Q _ => ∃ (p l : Addr) (c : Nat), vs = [.ref p, .int c] ∧ PoolAt H p l ∧ c ≤ 6 ∧ ∀ (ms : List Nat) (t : Addr) (H' : Hp), ms.Pairwise (· < ·) → ms.length = c → (∀ m ∈ ms, m ≤ 99) → H' t = some (.lst (ms.map nV)) → H t = none → PoolAt H' p l → Ext [p, l] H H' → Q (.ref t) H'
theorem ok_law_book_messages (T : Tx K mg) : FnOk P w K mg base CX0 2 T.law_book_messages.f T.law_book_messages.fd ["pool", "count"] sp_law_book_messages := by
  refine T.law_book_messages.F.ok sc_law_book_messages (fun vs H Q E h => ?_) (fun cdv A outer s H vs Q E hr h => ?_)
  · obtain ⟨p, l, c, rfl, _⟩ := h; rfl
  · obtain ⟨p, l, c, rfl, hP, hc, q⟩ := h
    refine ⟨_, (pss_cons (ps_set (i := 2) sc_law_book_messages.nd rfl (.inl rfl) (pe_call (ok_law_draw T) (hr.mono (by decide)) (by rfl) T.law_draw.g T.law_draw.F.kp T.law_draw.b .nil pass0 (pa_cons (pv 0) (pa_cons pe_int pa_nil))))
      (C8.pss_cut (ps_set (i := 3) sc_law_book_messages.nd rfl (.inl rfl) (pe_ix ix_list (pe_lst (pa_cons (pv 1) (pa_cons (pv 1) (pa_cons (pe_callB (call_min2 rfl) (by rfl) T.n_min (by decide +kernel) (pa_cons (pe_op op_add (pv 1) pe_int) (pa_cons pe_int pa_nil))) (pa_cons pe_int pa_nil))))) (pv 2) (fun _ _ => rfl)))
      (pss_cons (ps_par (i := 4) (j := 5) (by rfl) sc_law_book_messages.nd rfl rfl (by decide) rfl rfl (pa_cons (pe_listRg rfl (by rfl) T.n_list (prg_1 (by rfl) T.n_range (pv 3))) (pa_cons (pe_lst pa_nil) pa_nil)) (by rfl))
      (pss_cons (ps_for PassesOwn.never rfl (pi_range1 (by rfl) T.n_range (pa_cons (pv 1) pa_nil)) (pg_name (i := 6) sc_law_book_messages.nd rfl (.inl rfl))
        (pss_one (ps_expr (pe_bm PySem.F.plainAttrs_list PySem.F.slot_list_append PySem.F.type_list_append mt_append (pv 5) (pa_cons (pe_bm PySem.F.plainAttrs_list PySem.F.slot_list_pop PySem.F.type_list_pop mt_popAt (pv 4) (pa_cons (pe_mid (pe_ifExp (pt_cmpR op_lt (pv 2) pe_int (nomark _)) (pe_call (ok_law_draw T) (hr.mono (by decide)) (by rfl) T.law_draw.g T.law_draw.F.kp T.law_draw.b .nil pass0 (pa_cons (pv 0) (pa_cons (pe_callB call_len_seq (by rfl) T.n_len PySem.boot_len (pa_cons (pv 4) pa_nil)) pa_nil))) (pe_op op_sub (pe_op op_sub (pe_callB call_len_seq (by rfl) T.n_len PySem.boot_len (pa_cons (pv 4) pa_nil)) pe_int) (pe_call (ok_law_draw T) (hr.mono (by decide)) (by rfl) T.law_draw.g T.law_draw.F.kp T.law_draw.b .nil pass0 (pa_cons (pv 0) (pa_cons pe_int pa_nil)))))) pa_nil)) pa_nil)))))
      (pss_one (ps_ret (pe_callB cr_sorted (by rfl) T.n_sorted (by decide +kernel) (pa_cons (pv 5) pa_nil)))))))), ?_⟩
    -- way
    refine ⟨_, rfl, p, l, 4, rfl, hP, by decide, by decide, fun r H1 r0 r1 P1 e1 => ?_⟩
    -- top
    refine ⟨fun σ H' => ∃ top : Nat, σ = [some (.ref p), some (.int c), some (.int r), some (.int top), none, none, none] ∧ c ≤ top ∧ top ≤ 100 ∧ (r < 3 ∨ top = 100) ∧ PoolAt H' p l ∧ Ext [p, l] H H', ?_, ?_⟩
    · refine ⟨_, rfl, _, rfl, _, rfl, _, _, rfl, rfl, _, _, rfl, (by show 4 ≤ sizeLine; decide), fun d hd => ?_⟩
      have e2 : Ext [] H1 (upd H1 d (.lst [.int c, .int c, .int (if (6 : Int) < (c : Int) + 2 then 6 else (c : Int) + 2), .int 100])) := .new hd
      have m : ∃ t : Nat, (if (6 : Int) < (c : Int) + 2 then 6 else (c : Int) + 2) = t ∧ c ≤ t ∧ t ≤ 100 := by
        by_cases h : (6 : Int) < (c : Int) + 2
        · rw [if_pos h]; exact ⟨6, rfl, hc, by decide⟩
        · rw [if_neg h]; exact ⟨c + 2, by simp, by omega, by omega⟩
      obtain ⟨t, ht, t1, t2⟩ := m
      have four : r = 0 ∨ r = 1 ∨ r = 2 ∨ r = 3 := by omega
      have pe := P1.ext0 e2
      have ee := e1.trans e2.weak
      rcases four with rfl | rfl | rfl | rfl
      · exact ⟨_, rfl, d, _, _, _, rfl, rfl, .of upd_same, atI_nat (j := 0) rfl, c, rfl, Nat.le_refl _, by omega, .inl (by decide), pe, ee⟩
      · exact ⟨_, rfl, d, _, _, _, rfl, rfl, .of upd_same, atI_nat (j := 1) rfl, c, rfl, Nat.le_refl _, by omega, .inl (by decide), pe, ee⟩
      · exact ⟨_, rfl, d, _, _, _, rfl, rfl, .of upd_same, atI_nat (j := 2) rfl, t, by rw [ht]; rfl, t1, t2, .inl (by decide), pe, ee⟩
      · exact ⟨_, rfl, d, _, _, _, rfl, rfl, .of upd_same, atI_nat (j := 3) rfl, 100, rfl, by omega, Nat.le_refl _, .inr rfl, pe, ee⟩
    · rintro σ H2 ⟨top, rfl, c1, c2, c3, P2, e2⟩
      -- left, found
      refine ⟨_, rfl, _, rfl, RgOk.of_le (by omega) (by omega) (by omega) (by omega), fun lf hlf => ⟨Nat.zero_le _, fun fd hfd => ⟨_, _, rfl, ?_⟩⟩⟩
      rw [rgV_nV] at hfd ⊢
      have e3 : Ext [] H2 (upd H2 lf (.lst ((List.range top).map nV))) := .new hlf
      have e4 := e3.trans (Ext.new (L := []) (o := .lst []) hfd)
      have nlf : fd ≠ lf := fun z => by rw [z, upd_same] at hfd; cases hfd
      have h2p : H2 p ≠ none := by obtain ⟨_, _, _, _, a, _⟩ := P2; rw [a]; simp
      have h2l : H2 l ≠ none := by obtain ⟨_, _, _, _, _, a, _⟩ := P2; rw [a]; simp
      have n1 : lf ≠ p := fun z => h2p (z ▸ hlf)
      have n2 : lf ≠ l := fun z => h2l (z ▸ hlf)
      have hfd2 := e3.free hfd
      have n3 : fd ≠ p := fun z => h2p (z ▸ hfd2)
      have n4 : fd ≠ l := fun z => h2l (z ▸ hfd2)
      have f1 : H lf = none := e2.free2 hlf (off2 n1 n2)
      have f2 : H fd = none := e2.free2 hfd2 (off2 n3 n4)
      -- the loop
      refine ⟨_, rfl, _, rfl, by omega, by omega, for_range (lo := 0) (n := _) (fun i σ H' => ∃ (L F : List Nat) (y : Option V), σ = [some (.ref p), some (.int c), some (.int r), some (.int top), some (.ref lf), some (.ref fd), y] ∧ H' lf = some (.lst (L.map nV)) ∧ H' fd = some (.lst (F.map nV)) ∧ (F ++ L).Perm (List.range top) ∧ F.length = i ∧ PoolAt H' p l ∧ Ext [p, l] H H')
        ⟨List.range top, [], _, rfl, by rw [upd_ne nlf.symm, upd_same], upd_same, .refl _, rfl, P2.ext0 e4, e2.trans e4.weak⟩ ?_ ?_⟩
      · rintro i σ H' hi ⟨L, F, y, rfl, hL, hF, hperm, hFl, P', e'⟩
        have hi : i < c := by have : ((c : Int)).toNat = c := Int.toNat_natCast _; omega
        have tot : F.length + L.length = top := by have := hperm.length_eq; simpa using this
        have Lpos : 0 < L.length := by omega
        refine ⟨_, rfl, .inl ⟨rfl, _, .of hF⟩, _, rfl, .inl ⟨rfl, _, .of hL⟩, ?_⟩
        -- the index
        refine ⟨fun v H3 => ∃ k : Nat, v = .int k ∧ k < L.length ∧ H3 lf = some (.lst (L.map nV)) ∧ H3 fd = some (.lst (F.map nV)) ∧ PoolAt H3 p l ∧ Ext [p, l] H H3, ?_, ?_⟩
        · refine ⟨_, rfl, _, _, rfl, rfl, _, rfl, ite2 (fun z => ?_) (fun z => ?_)⟩
          · refine ⟨_, rfl, _, rfl, lf, _, rfl, .inl (.of hL), p, l, _, rfl, P', by rw [List.length_map]; omega, by rw [List.length_map]; omega, fun k H3 k0 k1 P3 e3' => ?_⟩
            rw [List.length_map] at k1
            exact ⟨k.toNat, by rw [Int.toNat_of_nonneg k0], by omega, e3' _ _ (off2 n1 n2) hL, e3' _ _ (off2 n3 n4) hF, P3, e'.trans e3'⟩
          · have z : ¬ r < 3 := fun w => z (decide_eq_true w)
            have t100 : top = 100 := by rcases c3 with c3 | c3; exact absurd c3 z; exact c3
            refine ⟨_, rfl, lf, _, rfl, .inl (.of hL), _, _, rfl, rfl, _, rfl, p, l, 3, rfl, P', by decide, by decide, fun k H3 k0 k1 P3 e3' => ?_⟩
            refine ⟨_, _, rfl, rfl, (L.length - 1 - k.toNat), ?_, by omega, e3' _ _ (off2 n1 n2) hL, e3' _ _ (off2 n3 n4) hF, P3, e'.trans e3'⟩
            have e5 : ((L.map nV).length : Int) - 1 - k = ((L.length - 1 - k.toNat : Nat) : Int) := by
              rw [List.length_map]
              omega
            exact congrArg V.int e5
        · rintro v H3 ⟨k, rfl, hk, hL3, hF3, P3, e3'⟩
          have hy : L[k]? = some L[k] := List.getElem?_eq_getElem hk
          generalize L[k] = y at hy
          refine ⟨lf, _, _, k, nV y, rfl, rfl, hL3, by omega, by omega, by rw [List.length_map]; exact seqAt hk, at_map hy, ?_⟩
          have el : (L.map nV).eraseIdx k = (L.eraseIdx k).map nV := eraseIdx_nV nV L k
          rw [el]
          have hF4 : upd H3 lf (.lst ((L.eraseIdx k).map nV)) fd = some (.lst (F.map nV)) := by rw [upd_ne nlf]; exact hF3
          refine ⟨fd, _, _, rfl, rfl, hF4, by rw [List.length_map]; exact small1000 (by omega), L.eraseIdx k, F ++ [y], _, rfl, by rw [upd_ne nlf.symm, upd_same], ?_, ?_, ?_, ?_, ?_⟩
          · rw [upd_same, List.map_append]; rfl
          · rw [List.append_assoc]
            exact (List.Perm.append_left F (erase_perm L k y hy)).trans hperm
          · rw [List.length_append, hFl]; rfl
          · refine P3.ext (L := [lf, fd]) ((Ext.wr (by simp)).trans (.wr (by simp))) ?_ ?_
            · simp [n1.symm, n3.symm]
            · simp [n2.symm, n4.symm]
          · exact (e3'.put' f1).put' f2
      · rintro σ H' ⟨L, F, y, rfl, hL, hF, hperm, hFl, P', e'⟩
        rw [Int.toNat_natCast] at hFl
        have nd : F.Nodup := (List.nodup_append.mp (hperm.nodup_iff.mpr List.nodup_range)).1
        refine ⟨_, rfl, fd, F.map (fun n : Nat => (n : Int)), rfl, .of (by rw [← map_nV_int]; exact hF), by rw [List.length_map]; omega, fun ns t perm rise ht => ?_⟩
        obtain ⟨ms, e1', e2', e3'⟩ := sorted_nats nd perm rise
        rw [e1']
        have ft : H t = none := e'.free2 ht (off2 (fun z => ?_) (fun z => ?_))
        · refine q ms t _ e3' (by rw [e2'.length_eq]; exact hFl) (fun m hm => ?_) upd_same ft (P'.ext (L := [t]) (.wr (by simp)) ?_ ?_) (e'.put' ft)
          · have h1 := hperm.mem_iff.mp (List.mem_append_left L (e2'.mem_iff.mp hm))
            have := List.mem_range.mp h1
            omega
          · obtain ⟨_, _, _, _, a, _⟩ := P'
            simp
            exact fun z => by rw [z, ht] at a; cases a
          · obtain ⟨_, _, _, _, _, a, _⟩ := P'
            simp
            exact fun z => by rw [z, ht] at a; cases a
        · obtain ⟨_, _, _, _, a, _⟩ := P'
          rw [← z, ht] at a; cases a
        · obtain ⟨_, _, _, _, _, a, _⟩ := P'
          rw [← z, ht] at a; cases a
end
end Nv
set_option Elab.async false
set_option linter.all false
set_option maxRecDepth 100000
namespace Nv
open PySem PySem.Spec PyProof.Rows L2
section
variable {P : Program} {w : World} {K : PySem.W.Frag} {mg : Str → Option Value} {base : Heap}
/-! ### the law's books: drawn -/
theorem PoolAt.off {H : Hp} {p l x : Addr} (h : PoolAt H p l) (hx : H x = none) : x ≠ p ∧ x ≠ l := by
  obtain ⟨_, _, _, _, a, b, _⟩ := h
  refine ⟨fun z => ?_, fun z => ?_⟩
  · rw [z, a] at hx
    cases hx
  · rw [z, b] at hx
    cases hx
theorem PoolAt.put {H : Hp} {p l x : Addr} {o : HO} (h : PoolAt H p l) (h1 : x ≠ p) (h2 : x ≠ l) : PoolAt (upd H x o) p l := h.ext (L := [x]) (.wr (by simp)) (by simp; exact h1.symm) (by simp; exact h2.symm)
structure StD (n m : Nat) (s : State) : Prop where
  few : s.length ≤ m
  rise : (s.map (·.1)).Pairwise (· < ·)
  msg : ∀ q ∈ s, q.1 ≤ 99
  to : ∀ q ∈ s, q.2 < n
theorem StD.set {n m : Nat} {s : State} (h : StD n m s) {k : Nat} {q : Nat × Nat} (hq : s[k]? = some q) {t : Nat} (ht : t < n) : StD n m (s.set k (q.1, t)) := by
  have hm := List.mem_of_getElem? hq
  have e : (s.set k (q.1, t)).map (·.1) = s.map (·.1) := by
    rw [List.map_set]
    refine List.ext_getElem? fun i => ?_
    by_cases hi : k = i
    · subst hi
      have hk : k < (s.map (·.1)).length := by
        rw [List.length_map]
        exact (List.getElem?_eq_some_iff.mp hq).1
      rw [List.getElem?_set_self hk, List.getElem?_map, hq]
      rfl
    · rw [List.getElem?_set_ne hi]
  refine ⟨by rw [List.length_set]; exact h.few, by rw [e]; exact h.rise, fun z hz => ?_, fun z hz => ?_⟩
  · rcases List.mem_or_eq_of_mem_set hz with hz | rfl
    · exact h.msg z hz
    · exact h.msg q hm
  · rcases List.mem_or_eq_of_mem_set hz with hz | rfl
    · exact h.to z hz
    · exact ht
theorem sc_law_book_drawn : FnScope ["pool", "states", "most", "size", "way", "moves", "state", "count", "told", "message", "to", "at"] ["pool", "states", "most"] (defScope s_law_book_drawn) := ⟨rfl, rfl, rfl, by decide +kernel, rfl, by decide +kernel, by decide +kernel⟩
def sp_law_book_drawn (K : PySem.W.Frag) : Sp := fun vs H Q _ => ∃ (p l : Addr) (S M : Nat), vs = [.ref p, .int S, .int M] ∧ PoolAt H p l ∧ 1 ≤ S ∧ S ≤ 8 ∧ M ≤ 5 ∧ ∀ (b : Book) (v : V) (H' : Hp), OkB b → b.length ≤ S → (∀ s ∈ b, s.length ≤ M) → BkV K H' v b → PoolAt H' p l → Ext [p, l] H H' → Q v H'
theorem ok_law_book_drawn (T : Tx K mg) : FnOk P w K mg base CX0 3 T.law_book_drawn.f T.law_book_drawn.fd ["pool", "states", "most"] (sp_law_book_drawn K) := by
  refine T.law_book_drawn.F.ok sc_law_book_drawn (fun vs H Q E h => ?_) (fun cdv A outer s H vs Q E hr h => ?_)
  · obtain ⟨p, l, S, M, rfl, _⟩ := h; rfl
  · obtain ⟨p, l, S, M, rfl, hP, hS1, hS8, hM, q⟩ := h
    refine ⟨_, (pss_cons (ps_par3 (i := 3) (j := 4) (l := 5) rfl sc_law_book_drawn.nd rfl rfl rfl (by decide) (by decide) (by decide) rfl rfl rfl (pa_cons (pe_op op_add pe_int (pe_call (ok_law_draw T) (hr.mono (by decide)) (by rfl) T.law_draw.g T.law_draw.F.kp T.law_draw.b .nil pass0 (pa_cons (pv 0) (pa_cons (pv 1) pa_nil)))) (pa_cons (pe_call (ok_law_draw T) (hr.mono (by decide)) (by rfl) T.law_draw.g T.law_draw.F.kp T.law_draw.b .nil pass0 (pa_cons (pv 0) (pa_cons pe_int pa_nil))) (pa_cons (pe_lst pa_nil) pa_nil))) (by rfl))
      (pss_cons (ps_for PassesOwn.never rfl (pi_range1 (by rfl) T.n_range (pa_cons (pv 3) pa_nil)) (pg_name (i := 6) sc_law_book_drawn.nd rfl (.inl rfl))
        (pss_cons (ps_set (i := 7) sc_law_book_drawn.nd rfl (.inl rfl) (pe_call (ok_law_pick T) (hr.mono (by decide)) (by rfl) T.law_pick.g T.law_pick.F.kp T.law_pick.b .nil pass0 (pa_cons (pv 0) (pa_cons (pe_lst (pa_cons pe_int (pa_cons pe_int (pa_cons pe_int (pa_cons pe_int (pa_cons (pe_callB (call_min2 rfl) (by rfl) T.n_min (by decide +kernel) (pa_cons pe_int (pa_cons (pv 2) pa_nil))) (pa_cons (pe_call (ok_law_draw T) (hr.mono (by decide)) (by rfl) T.law_draw.g T.law_draw.F.kp T.law_draw.b .nil pass0 (pa_cons (pv 0) (pa_cons (pe_op op_add (pv 2) pe_int) pa_nil))) pa_nil))))))) pa_nil))))
        (C8.pss_cut (ps_if (PW.pt (pw_and (pt_cmpR op_gt (pv 4) pe_int (nomark _)) (pw_and1 (pt_cmpR op_eq (pv 6) (pe_op op_sub (pv 3) pe_int) (nomark _)))))
          (pss_one (ps_set (i := 7) sc_law_book_drawn.nd rfl (.inl rfl) pe_int))
          pss_nil)
        (pss_cons (ps_set (i := 8) sc_law_book_drawn.nd rfl (.inl rfl) (pe_lst pa_nil))
        (pss_cons (ps_for PassesOwn.never rfl (pi_list (pe_call (ok_law_book_messages T) (hr.mono (by decide)) (by rfl) T.law_book_messages.g T.law_book_messages.F.kp T.law_book_messages.b .nil pass0 (pa_cons (pv 0) (pa_cons (pe_callB (call_min2 rfl) (by rfl) T.n_min (by decide +kernel) (pa_cons (pv 7) (pa_cons (pv 2) pa_nil))) pa_nil)))) (pg_name (i := 9) sc_law_book_drawn.nd rfl (.inl rfl))
          (pss_cons (ps_set (i := 10) sc_law_book_drawn.nd rfl (.inl rfl) (pe_call (ok_law_draw T) (hr.mono (by decide)) (by rfl) T.law_draw.g T.law_draw.F.kp T.law_draw.b .nil pass0 (pa_cons (pv 0) (pa_cons (pv 3) pa_nil))))
          (C8.pss_cut (ps_if (PW.pt (pw_and (pt_cmpR op_gt (pv 4) pe_int (nomark _)) (pw_and1 (pt_cmpR op_lt (pv 6) (pe_op op_sub (pv 3) pe_int) (nomark _)))))
            (pss_one (ps_set (i := 10) sc_law_book_drawn.nd rfl (.inl rfl) (pe_op op_add (pe_op op_add (pv 6) pe_int) (pe_call (ok_law_draw T) (hr.mono (by decide)) (by rfl) T.law_draw.g T.law_draw.F.kp T.law_draw.b .nil pass0 (pa_cons (pv 0) (pa_cons (pe_op op_sub (pe_op op_sub (pv 3) pe_int) (pv 6)) pa_nil))))))
            pss_nil)
          (pss_one (ps_expr (pe_bm PySem.F.plainAttrs_list PySem.F.slot_list_append PySem.F.type_list_append mt_append (pv 8) (pa_cons (pe_tup (pa_cons (pv 9) (pa_cons (pv 10) pa_nil))) pa_nil)))))))
        (C8.pss_cut (ps_if (PW.pt (pw_and (pt_cmpR op_gt (pv 4) pe_int (nomark _)) (pw_and1 (pt_cmpR (op_neD (hr.units)) (pv 8) (pe_lst pa_nil) (nomark _)))))
          (pss_cons (ps_set (i := 11) sc_law_book_drawn.nd rfl (.inl rfl) (pe_call (ok_law_draw T) (hr.mono (by decide)) (by rfl) T.law_draw.g T.law_draw.F.kp T.law_draw.b .nil pass0 (pa_cons (pv 0) (pa_cons (pe_callB call_len_seq (by rfl) T.n_len PySem.boot_len (pa_cons (pv 8) pa_nil)) pa_nil))))
          (pss_one (ps_asg (pe_tup (pa_cons (pe_ix ix_tup (pe_ix ix_list (pv 8) (pv 11) (fun _ _ => rfl)) pe_int (fun _ _ => rfl)) (pa_cons (pe_mid (pe_ifExp (pt_cmpR op_lt (pv 4) pe_int (nomark _)) (pe_op op_mod (pe_callTy call_int1 (by rfl) T.n_int (by decide +kernel) (pa_cons (pe_op op_add (pv 6) pe_int) pa_nil)) (pv 3)) (pe_callB (call_min2 rfl) (by rfl) T.n_min (by decide +kernel) (pa_cons (pe_op op_add (pv 6) pe_int) (pa_cons (pe_op op_sub (pv 3) pe_int) pa_nil))))) pa_nil))) (pg_sub (pv 8) (pv 11) set_list))))
          pss_nil)
        (pss_one (ps_expr (pe_bm PySem.F.plainAttrs_list PySem.F.slot_list_append PySem.F.type_list_append mt_append (pv 5) (pa_cons (pv 8) pa_nil))))))))))
      (pss_one (ps_ret (pe_call (ok_law_book_meeting T) (hr.mono (by decide)) (by rfl) T.law_book_meeting.g T.law_book_meeting.F.kp T.law_book_meeting.b .nil pass0 (pa_cons (pv 5) pa_nil)))))), ?_⟩
    -- size, way, moves
    refine ⟨_, rfl, _, rfl, p, l, _, rfl, hP, by omega, by omega, fun r H1 r0 r1 P1 e1 => ⟨_, _, rfl, rfl, ?_⟩⟩
    refine ⟨_, rfl, p, l, 6, rfl, P1, by decide, by decide, fun way H2 w0 w1 P2 e2 => ⟨Nat.zero_le _, fun mv hmv => ⟨_, _, _, rfl, ?_⟩⟩⟩
    obtain ⟨n, hn⟩ : ∃ n : Nat, 1 + r = (n : Int) := ⟨(1 + r).toNat, by omega⟩
    have hn1 : 1 ≤ n := by omega
    have hnS : n ≤ S := by omega
    show _
    simp only [hn]
    obtain ⟨mp, ml⟩ := P2.off hmv
    have fmv : H mv = none := (e1.trans e2).free2 hmv (off2 mp ml)
    -- the loop
    refine ⟨_, rfl, _, rfl, by omega, by omega, for_range (lo := 0) (n := _) (fun i σ H' => ∃ (vs : List V) (b : Book) (y6 y7 y8 y9 y10 y11 : Option V), σ = [some (.ref p), some (.int S), some (.int M), some (.int n), some (.int way), some (.ref mv), y6, y7, y8, y9, y10, y11] ∧ b.length = i ∧
      H' mv = some (.lst vs) ∧ Paired (LsN K H' [p, l, mv]) vs b ∧ (∀ s ∈ b, StD n M s) ∧ PoolAt H' p l ∧ Ext [p, l] H H')
      ⟨[], [], _, _, _, _, _, _, rfl, rfl, upd_same, .nil, (fun s z => nomatch z), P2.put mp ml, (e1.trans e2).put' fmv⟩ ?_ ?_⟩
    · rintro i σ H' hi ⟨vs, b, y6, y7, y8, y9, y10, y11, rfl, hbl, hv, hpd, hst, P', e'⟩
      have hi : i < n := by have : ((n : Int)).toNat = n := Int.toNat_natCast _; omega
      simp only [Int.zero_add]
      -- count
      refine ⟨_, rfl, _, rfl, _, _, rfl, _, rfl, _, rfl, _, _, rfl, rfl, p, l, _, rfl, P', by omega, by omega, fun c0 H3 c00 c01 P3 e3 => ?_⟩
      refine ⟨(by show 6 ≤ sizeLine; decide), fun t ht => ?_⟩
      obtain ⟨tp, tl⟩ := P3.off ht
      refine ⟨p, l, t, _, rfl, P3.put tp tl, .of upd_same, tp, tl, (by show 0 < 6; decide), (by show 6 < 1000; decide), fun k v H4 hk P4 e4 => ?_⟩
      have hc : ∃ c : Nat, v = .int c ∧ c ≤ 5 := by
        have six : k < 6 := (List.getElem?_eq_some_iff.mp hk).1
        have : k = 0 ∨ k = 1 ∨ k = 2 ∨ k = 3 ∨ k = 4 ∨ k = 5 := by omega
        rcases this with rfl | rfl | rfl | rfl | rfl | rfl
        · exact ⟨1, (Option.some.inj hk).symm, by decide⟩
        · exact ⟨1, (Option.some.inj hk).symm, by decide⟩
        · exact ⟨2, (Option.some.inj hk).symm, by decide⟩
        · exact ⟨2, (Option.some.inj hk).symm, by decide⟩
        · have z := (Option.some.inj hk).symm
          by_cases hm : (M : Int) < 2
          · rw [if_pos hm] at z; exact ⟨M, z, by omega⟩
          · rw [if_neg hm] at z; exact ⟨2, z, by decide⟩
        · exact ⟨c0.toNat, by rw [(Option.some.inj hk).symm, Int.toNat_of_nonneg c00], by omega⟩
      obtain ⟨c, rfl, hc5⟩ := hc
      have e5 : Ext [p, l] H' H4 := (e3.trans (Ext.weak (.new ht))).trans e4
      have hpd4 : Paired (LsN K H4 [p, l, mv]) vs b := Paired.imp hpd fun _ _ z => z.ext e5 (by simp) P'.lsts
      have hv4 := e5 _ _ (off2 mp ml) hv
      have e6 := e'.trans e5
      generalize hH : H4 = H5 at *
      clear hH e5 e4 e3 hk ht P' hv hpd P3
      -- if way > 3 and state == size - 1
      refine ⟨fun σ H' => ∃ c : Nat, c ≤ 5 ∧ H' = H5 ∧ σ = [some (.ref p), some (.int S), some (.int M), some (.int n), some (.int way), some (.ref mv), some (.int i), some (.int c), y8, y9, y10, y11], ?_, ?_⟩
      · refine ⟨_, rfl, _, _, rfl, rfl, _, rfl, ite2 (fun z => ?_) (fun z => iteF ⟨c, hc5, rfl, rfl⟩)⟩
        refine ⟨_, rfl, _, rfl, _, _, rfl, rfl, rfl, _, rfl, ite2 (fun z => ?_) (fun z => ?_)⟩
        · exact ⟨0, by decide, rfl, rfl⟩
        · exact ⟨c, hc5, rfl, rfl⟩
      · rintro σ Hb ⟨c, hc5, rfl, rfl⟩
        -- told = []
        refine ⟨Nat.zero_le _, fun td htd => ?_⟩
        obtain ⟨tdp, tdl⟩ := P4.off htd
        have tdmv : td ≠ mv := fun z => by rw [z, hv4] at htd; cases htd
        have b0 : Ext [p, l] Hb (upd Hb td (.lst [])) := Ext.weak (.new htd)
        -- for message in ..
        have hmin : ∃ d : Nat, (if (M : Int) < (c : Int) then (M : Int) else (c : Int)) = d ∧ d ≤ M ∧ d ≤ 5 := by
          by_cases hm : (M : Int) < (c : Int)
          · rw [if_pos hm]; exact ⟨M, rfl, Nat.le_refl _, hM⟩
          · rw [if_neg hm]; exact ⟨c, rfl, by omega, hc5⟩
        obtain ⟨d, hd, hdM, hd5⟩ := hmin
        refine ⟨_, rfl, _, rfl, _, rfl, _, _, rfl, p, l, d, by rw [hd]; rfl, P4.put tdp tdl, by omega, fun ms t H6 m1 m2 m3 ht tfree P6 e6' => ?_⟩
        have b1 := b0.trans e6'
        have ttd : t ≠ td := fun z => by rw [z, upd_same] at tfree; cases tfree
        obtain ⟨ttp, ttl⟩ := (P4.put (o := .lst []) tdp tdl).off tfree
        have htd6 : H6 td = some (.lst []) := e6' _ _ (off2 tdp tdl) upd_same
        refine ⟨t, rfl, ⟨_, .of ht⟩, for_list (K := K) (a := t) (xs := ms.map nV) (fun k σ H' => ∃ (ps : List Addr) (tl : State) (y9 y10 : Option V), σ = [some (.ref p), some (.int S), some (.int M), some (.int n), some (.int way), some (.ref mv), some (.int i), some (.int c), some (.ref td), y9, y10, y11] ∧
          H' td = some (.lst (ps.map V.ref)) ∧ Paired (MvV K H') ps tl ∧ tl.map (·.1) = ms.take k ∧ (∀ z ∈ tl, z.2 < n) ∧ H' t = some (.lst (ms.map nV)) ∧ PoolAt H' p l ∧ Ext [p, l] Hb H')
          ⟨[], [], _, _, rfl, htd6, .nil, by simp, (fun z hz => nomatch hz), ht, P6, b1⟩ (fun k σ H' _ ⟨_, _, _, _, _, _, _, _, _, h, _⟩ => .of h) ?_ ?_⟩
        · rintro k v σ H' hv ⟨ps, tl, y9, y10, rfl, htd', hps, hmap, hto, ht', P', e8⟩
          obtain ⟨m, hm, rfl⟩ := map_at hv
          have ntd : td ∉ [p, l] := off2 tdp tdl
          have nt : t ∉ [p, l] := off2 ttp ttl
          refine ⟨_, rfl, _, rfl, p, l, _, rfl, P', by omega, by omega, fun t0 H7 t00 t01 P7 e7 => ?_⟩
          refine ⟨fun σ H8 => ∃ u : Nat, u < n ∧ σ = [some (.ref p), some (.int S), some (.int M), some (.int n), some (.int way), some (.ref mv), some (.int i), some (.int c), some (.ref td), some (nV m), some (.int u), y11] ∧ PoolAt H8 p l ∧ Ext [p, l] H7 H8, ?_, ?_⟩
          · have stay : ∃ u : Nat, u < n ∧ ([some (.ref p), some (.int S), some (.int M), some (.int n), some (.int way), some (.ref mv), some (.int i), some (.int c), some (.ref td), some (nV m), some (.int t0), y11] : L2.St) = [some (.ref p), some (.int S), some (.int M), some (.int n), some (.int way), some (.ref mv), some (.int i), some (.int c), some (.ref td), some (nV m), some (.int u), y11] ∧ PoolAt H7 p l ∧ Ext [p, l] H7 H7 :=
              ⟨t0.toNat, by omega, by rw [Int.toNat_of_nonneg t00], P7, .refl⟩
            refine ⟨_, rfl, _, _, rfl, rfl, _, rfl, ite2 (fun z => ?_) (fun z => iteF stay)⟩
            refine ⟨_, rfl, _, rfl, _, _, rfl, rfl, _, _, rfl, rfl, _, rfl, ite2 (fun z2 => ?_) (fun z2 => stay)⟩
            have z2 := of_decide_eq_true z2
            refine ⟨_, rfl, _, _, rfl, rfl, _, rfl, _, rfl, _, _, rfl, rfl, _, rfl, _, _, rfl, rfl, p, l, _, rfl, P7, by omega, by omega, fun r8 H8 r80 r81 P8 e8 => ⟨_, _, rfl, rfl, ?_⟩⟩
            have eu : (i : Int) + 1 + r8 = ((i + 1 + r8.toNat : Nat) : Int) := by omega
            exact ⟨i + 1 + r8.toNat, by omega, congrArg (fun z : Int => ([some (.ref p), some (.int S), some (.int M), some (.int n), some (.int way), some (.ref mv), some (.int i), some (.int c), some (.ref td), some (nV m), some (.int z), y11] : L2.St)) eu, P8, e8⟩
          · rintro σ H8 ⟨u, hu, rfl, P8, e9⟩
            have e10 := e7.trans e9
            have htd8 := e10 _ _ ntd htd'
            have ht8 := e10 _ _ nt ht'
            have hps8 : Paired (MvV K H8) ps tl := Paired.imp hps fun _ _ z => e10.tup P'.lsts z
            refine ⟨_, rfl, .inl ⟨rfl, _, .of htd8⟩, _, rfl, _, rfl, (by show 2 ≤ sizeLine; decide), fun nt' hnt => ?_⟩
            have e11 : Ext [] H8 (upd H8 nt' (.tup [nV m, .int u])) := .new hnt
            have htd9 := e11.at htd8 (by simp)
            obtain ⟨ntp, ntl⟩ := P8.off hnt
            have tll : tl.length ≤ 6 := by
              have := congrArg List.length hmap
              rw [List.length_map, List.length_take] at this
              omega
            refine ⟨td, _, _, rfl, rfl, htd9, by rw [List.length_map, Paired.len hps]; exact small1000 (by omega), ps ++ [nt'], tl ++ [(m, u)], _, _, rfl, by rw [upd_same, List.map_append]; rfl, ?_, ?_, fun z hz => ?_, ?_, ?_, ?_⟩
            · refine Paired.snoc ?_ (Paired.imp hps8 fun _ _ z => (z.ext0 e11).put htd9)
              exact MvV.put (m := (m, u)) (.of upd_same) htd9
            · rw [List.take_add_one, hm, List.map_append, hmap]
              rfl
            · rcases List.mem_append.mp hz with hz | hz
              · exact hto z hz
              · obtain rfl := List.mem_singleton.mp hz
                exact hu
            · rw [upd_ne ttd]
              exact e11.at ht8 (by simp)
            · exact (P8.put ntp ntl).put tdp tdl
            · exact ((e8.trans e10).trans e11.weak).put' htd
        · rintro σ H7 ⟨ps, tl, y9, y10, rfl, htd7, hps, hmap, hto, ht7, P7, e7⟩
          rw [List.length_map, List.take_length] at hmap
          have tll : tl.length = d := by
            have := congrArg List.length hmap
            rw [List.length_map] at this
            omega
          have sd : StD n M tl := ⟨by omega, by rw [hmap]; exact m1, fun z hz => m3 _ (by rw [← hmap]; exact List.mem_map.mpr ⟨z, hz, rfl⟩), hto⟩
          refine ⟨fun σ H8 => ∃ (ps : List Addr) (tl : State) (y9 y10 y11 : Option V), σ = [some (.ref p), some (.int S), some (.int M), some (.int n), some (.int way), some (.ref mv), some (.int i), some (.int c), some (.ref td), y9, y10, y11] ∧
            H8 td = some (.lst (ps.map V.ref)) ∧ Paired (MvV K H8) ps tl ∧ StD n M tl ∧ PoolAt H8 p l ∧ Ext [p, l] Hb H8, ?_, ?_⟩
          · refine ⟨_, rfl, _, _, rfl, rfl, _, rfl, ite2 (fun z => ?_) (fun z => iteF ⟨ps, tl, _, _, _, rfl, htd7, hps, sd, P7, e7⟩)⟩
            refine ⟨_, rfl, Nat.zero_le _, fun x hx => ?_⟩
            have e8 : Ext [] H7 (upd H7 x (.lst [])) := .new hx
            have htd8 := e8.at htd7 (by simp)
            have hps8 : Paired (MvV K (upd H7 x (.lst []))) ps tl := Paired.imp hps fun _ _ z => z.ext0 e8
            have P8 := P7.ext0 e8
            refine ⟨_, _, .lst (.of htd8) (dp_mvs hps8), .lst (.of upd_same) .nil, shaped_mvs _, by decide, _, rfl, ?_⟩
            rw [eqv_mvs_nil]
            by_cases ee : tl = []
            · rw [decide_eq_true ee]
              exact iteF ⟨ps, tl, _, _, _, rfl, htd8, hps8, sd, P8, e7.trans e8.weak⟩
            · rw [decide_eq_false ee]
              have plen := Paired.len hps
              have tpos : 0 < tl.length := List.length_pos_iff.mpr ee
              refine iteT ⟨_, rfl, _, rfl, td, _, rfl, .inl (.of htd8), p, l, _, rfl, P8, by rw [List.length_map]; omega, by rw [List.length_map]; omega, fun k H9 k0 k1 P9 e9 => ?_⟩
              rw [List.length_map] at k1
              obtain ⟨k, rfl⟩ : ∃ j : Nat, k = (j : Int) := ⟨k.toNat, by omega⟩
              have hk : k < tl.length := by omega
              have hq : tl[k]? = some tl[k] := List.getElem?_eq_getElem hk
              generalize tl[k] = qq at hq
              have htd9 := e9 _ _ (off2 tdp tdl) htd8
              have hps9 : Paired (MvV K H9) ps tl := Paired.imp hps8 fun _ _ z => e9.tup P8.lsts z
              obtain ⟨a, ha, haq⟩ := Paired.get hps9 hq
              refine ⟨_, rfl, _, rfl, td, _, _, _, rfl, rfl, .of htd9, atI_nat (at_map ha), a, _, _, _, rfl, rfl, haq, atI_nat (j := 0) rfl, ?_⟩
              refine ⟨fun v H' => H' = H9 ∧ ∃ u : Nat, u < n ∧ v = .int u, ?_, ?_⟩
              · refine ⟨_, rfl, _, _, rfl, rfl, _, rfl, ite2 (fun z => ?_) (fun z => ?_)⟩
                · refine ⟨_, rfl, _, _, rfl, rfl, .inl ⟨_, rfl, _, rfl, _, _, rfl, rfl, (by show (0 : Int) < n; omega), rfl, (((i : Int) + 1) % n).toNat, ?_, ?_⟩⟩
                  · have := Int.emod_lt_of_pos ((i : Int) + 1) (show (0 : Int) < n by omega)
                    have := Int.emod_nonneg ((i : Int) + 1) (show (n : Int) ≠ 0 by omega)
                    omega
                  · show V.int (((i : Int) + 1) % n) = _
                    rw [Int.toNat_of_nonneg (Int.emod_nonneg _ (by omega))]
                · refine ⟨_, rfl, _, _, rfl, rfl, _, rfl, _, _, rfl, rfl, _, _, rfl, rfl, ?_⟩
                  by_cases hm : (n : Int) - 1 < (i : Int) + 1
                  · rw [if_pos hm]
                    exact ⟨n - 1, by omega, congrArg V.int (by omega)⟩
                  · rw [if_neg hm]
                    exact ⟨i + 1, by omega, rfl⟩
              · rintro v H' ⟨rfl, u, hu, rfl⟩
                refine ⟨(by show 2 ≤ sizeLine; decide), fun nt hnt => ?_⟩
                have e10 : Ext [] H' (upd H' nt (.tup [.int qq.1, .int u])) := .new hnt
                have htd10 := e10.at htd9 (by simp)
                obtain ⟨ntp, ntl⟩ := P9.off hnt
                refine ⟨_, rfl, _, rfl, td, _, _, k, rfl, rfl, htd10, ixNat (by rw [List.length_map]; omega), ps.set k nt, tl.set k (qq.1, u), _, _, _, rfl, ?_, ?_, sd.set hq hu, (P9.put ntp ntl).put tdp tdl, ((((e7.trans e8.weak).trans e9).trans e10.weak)).put' htd⟩
                · rw [upd_same, List.map_set]
                · refine Paired.set ?_ k (Paired.imp hps9 fun _ _ z => (z.ext0 e10).put htd10)
                  exact MvV.put (m := (qq.1, u)) (.of upd_same) htd10
          · rintro σ H8 ⟨ps, tl, y9, y10, y11, rfl, htd8, hps8, sd8, P8, e8⟩
            have hmv8 := e8 _ _ (off2 mp ml) hv4
            have hpd8 : Paired (LsN K H8 [p, l, mv]) vs b := Paired.imp hpd4 fun _ _ z => z.ext e8 (by simp) P4.lsts
            have l3 : Lsts [mv] H8 := one_lst hmv8
            refine ⟨_, rfl, .inl ⟨rfl, _, .of hmv8⟩, _, rfl, mv, _, _, rfl, rfl, hmv8, by rw [Paired.len hpd8]; exact small1000 (by omega), vs ++ [.ref td], b ++ [tl], _, _, _, _, _, _, rfl, by rw [List.length_append, hbl]; rfl, upd_same, ?_, fun s hs => ?_, P8.put mp ml, (e6.trans e8).put' fmv⟩
            · refine Paired.snoc ⟨td, ps, rfl, ?_, by rw [upd_ne tdmv]; exact htd8, Paired.imp hps8 fun _ _ z => z.put hmv8⟩ (Paired.imp hpd8 fun _ _ z => z.ext (Y := [mv]) (.wr (by simp)) (by simp) l3)
              simp [tdp, tdl, tdmv]
            · rcases List.mem_append.mp hs with hs | hs
              · exact hst s hs
              · obtain rfl := List.mem_singleton.mp hs
                exact sd8
    · rintro σ H' ⟨vs, b, y6, y7, y8, y9, y10, y11, rfl, hbl, hv, hpd, hst, P', e'⟩
      rw [Int.toNat_natCast] at hbl
      have hlb : LbV K H' (.ref mv) b := ⟨mv, vs, rfl, hv, Paired.imp hpd fun _ _ z => z.ls⟩
      have sd : ∀ s, StD n M (mvs b s) := fun s => by
        by_cases hs : s < b.length
        · exact hst _ (mvs_mem hs)
        · rw [mvs_out (by omega)]
          exact ⟨Nat.zero_le _, .nil, (fun z hz => nomatch hz), fun z hz => nomatch hz⟩
      refine ⟨_, rfl, .ref mv, b, rfl, hlb, by omega, by omega, fun s => ⟨Nat.le_trans (sd s).few (by omega), fun z hz => by rw [hbl]; exact (sd s).to z hz⟩, fun F v H3 mt hbk e3 => ?_⟩
      have ok := mt.okB (by omega) fun s hs => ⟨Nat.le_trans (sd s).few hM, (sd s).rise, (sd s).msg⟩
      refine q _ v _ ok (by rw [rename_len]; have := nodup_le mt.nd mt.lt; omega) (fun s hs => ?_) hbk (P'.ext0 e3) (e'.trans e3.weak)
      obtain ⟨x, _, rfl⟩ := List.mem_map.mp hs
      rw [List.length_map]
      exact (sd x).few
end
end Nv
set_option Elab.async false
set_option linter.all false
set_option maxRecDepth 100000
namespace Nv
open PySem PySem.Spec PyProof.Rows L2
section
variable {P : Program} {w : World} {K : PySem.W.Frag} {mg : Str → Option Value} {base : Heap}
/-! ### the program: books held -/
theorem notF {c : Bool} {A B : Prop} (h : c = true) (hb : B) : if (!c) = true then A else B := by
  rw [h]
  exact iteF hb
theorem sc_has_state_form : FnScope ["thing", "many", "last", "pair", "message", "to"] ["thing", "many"] (defScope s_has_state_form) := ⟨rfl, rfl, rfl, by decide +kernel, rfl, by decide +kernel, by decide +kernel⟩
def sp_has_state_form (K : PySem.W.Frag) : Sp := fun vs H Q _ => ∃ (v : V) (s : State) (n : Nat), vs = [v, .int n] ∧ StV K H v s ∧ StOk n s ∧ Q (.bl true) H
theorem ok_has_state_form (T : Tx K mg) : FnOk P w K mg base CX0 3 T.has_state_form.f T.has_state_form.fd ["thing", "many"] (sp_has_state_form K) := by
  refine T.has_state_form.F.ok sc_has_state_form (fun vs H Q E h => ?_) (fun cdv A outer s H vs Q E hr h => ?_)
  · obtain ⟨v, s, n, rfl, _⟩ := h; rfl
  · obtain ⟨v, st, n, rfl, ⟨a, ps, rfl, ha, hps⟩, ok, q⟩ := h
    have plen := Paired.len hps
    refine ⟨_, (pss_cons (ps_if (pt_not (pt_val (pe_call (ok_tuple_within T) (hr.mono (by decide)) (by rfl) T.tuple_within.g T.tuple_within.F.kp T.tuple_within.b .nil pass0 (pa_cons (pv 0) (pa_cons pe_int (pa_cons (pe_glob (v := .int 5) (by rfl) T.c_MOST_MESSAGES.choose_spec ⟨_, rfl⟩) pa_nil))))))
        (pss_one (ps_ret pe_bl))
        pss_nil)
      (pss_cons (ps_set (i := 2) sc_has_state_form.nd rfl (.inl rfl) (pe_un un_neg pe_int))
      (pss_cons (ps_for PassesOwn.never rfl (pi_tup (pv 0)) (pg_name (i := 3) sc_has_state_form.nd rfl (.inl rfl))
        (pss_cons (ps_if (pt_not (pt_val (pe_call (ok_tuple_within T) (hr.mono (by decide)) (by rfl) T.tuple_within.g T.tuple_within.F.kp T.tuple_within.b .nil pass0 (pa_cons (pv 3) (pa_cons pe_int (pa_cons pe_int pa_nil))))))
          (pss_one (ps_ret pe_bl))
          pss_nil)
        (pss_cons (ps_asg (pv 3) (pg_tup rfl (pgs_cons (pg_name (i := 4) sc_has_state_form.nd rfl (.inl rfl)) (pgs_cons (pg_name (i := 5) sc_has_state_form.nd rfl (.inl rfl)) pgs_nil))))
        (pss_cons (ps_if (PW.pt (pw_or (pt_not (pt_val (pe_call (ok_whole_within T) (hr.mono (by decide)) (by rfl) T.whole_within.g T.whole_within.F.kp T.whole_within.b .nil pass0 (pa_cons (pv 4) (pa_cons (pe_op op_add (pv 2) pe_int) (pa_cons (pe_glob (v := .int 99) (by rfl) T.c_GREATEST_MESSAGE.choose_spec ⟨_, rfl⟩) pa_nil)))))) (pw_or1 (pt_not (pt_val (pe_call (ok_whole_within T) (hr.mono (by decide)) (by rfl) T.whole_within.g T.whole_within.F.kp T.whole_within.b .nil pass0 (pa_cons (pv 5) (pa_cons pe_int (pa_cons (pe_op op_sub (pv 1) pe_int) pa_nil)))))))))
          (pss_one (ps_ret pe_bl))
          pss_nil)
        (pss_one (ps_set (i := 2) sc_has_state_form.nd rfl (.inl rfl) (pv 4)))))))
      (pss_one (ps_ret pe_bl))))), ?_⟩
    refine ⟨_, rfl, a, _, 0, 5, rfl, ha.sq, SqT.ty ha.sq, _, rfl, notF (decide_eq_true ⟨by omega, ?_⟩) ?_⟩
    · rw [List.length_map, plen]
      have := ok.few
      omega
    refine ⟨1, rfl, _, rfl, a, rfl, ⟨_, ha.sq⟩, for_tup (K := K) (a := a) (xs := ps.map V.ref) (fun k σ H' => H' = H ∧ ∃ (z : Int) (y3 y4 y5 : Option V), σ = [some (.ref a), some (.int n), some (.int z), y3, y4, y5] ∧ ∀ j q, k ≤ j → st[j]? = some q → z < (q.1 : Int))
      ⟨rfl, -1, _, _, _, rfl, fun j q _ _ => by omega⟩ (fun k σ H' _ ⟨e, _⟩ => by rw [e]; exact ha.sq) ?_ ?_⟩
    · rintro k v σ H' hv ⟨rfl, z, y3, y4, y5, rfl, hz⟩
      obtain ⟨c, hc, rfl⟩ := map_at hv
      obtain ⟨p, hp, hcp⟩ := Paired.get' hps hc
      have hm := List.mem_of_getElem? hp
      refine ⟨_, rfl, c, _, 2, 2, rfl, hcp, SqT.ty hcp, _, rfl, notF (by show decide ((2 : Int) ≤ 2 ∧ (2 : Int) ≤ 2) = true; decide) ?_⟩
      refine ⟨_, rfl, c, _, rfl, hcp, rfl, _, _, rfl, _, _, rfl, rfl, ?_⟩
      have b1 := hz k p (Nat.le_refl _) hp
      have b2 := ok.msg p hm
      have b3 := ok.to p hm
      refine ⟨_, rfl, _, rfl, _, _, rfl, rfl, _, _, _, rfl, _, rfl, notF (decide_eq_true ⟨by omega, by omega⟩) ?_⟩
      refine ⟨_, rfl, _, rfl, _, _, rfl, rfl, _, _, _, rfl, _, rfl, notF (decide_eq_true ⟨by omega, by omega⟩) ?_⟩
      refine ⟨_, rfl, rfl, _, _, _, _, rfl, fun j q hj hq => ?_⟩
      obtain ⟨hk, ek⟩ := List.getElem?_eq_some_iff.mp hp
      obtain ⟨hj2, ej⟩ := List.getElem?_eq_some_iff.mp hq
      have := List.pairwise_iff_getElem.mp ok.rise k j (by rw [List.length_map]; exact hk) (by rw [List.length_map]; exact hj2) (by omega)
      rw [List.getElem_map, List.getElem_map, ek, ej] at this
      omega
    · rintro σ H' ⟨rfl, z, y3, y4, y5, rfl, hz⟩
      exact q
theorem sc_check_form : FnScope ["thing", "state"] ["thing"] (defScope s_check_form) := ⟨rfl, rfl, rfl, by decide +kernel, rfl, by decide +kernel, by decide +kernel⟩
def sp_check_form (K : PySem.W.Frag) : Sp := fun vs H Q _ => ∃ (v : V) (b : Book), vs = [v] ∧ BkV K H v b ∧ FormB b ∧ Q .non H
theorem ok_check_form (T : Tx K mg) : FnOk P w K mg base CX0 4 T.check_form.f T.check_form.fd ["thing"] (sp_check_form K) := by
  refine T.check_form.F.ok sc_check_form (fun vs H Q E h => ?_) (fun cdv A outer s H vs Q E hr h => ?_)
  · obtain ⟨v, b, rfl, _⟩ := h; rfl
  · obtain ⟨v, b, rfl, ⟨a, ls, rfl, ha, hls⟩, ok, q⟩ := h
    have llen := Paired.len hls
    refine ⟨_, (pss_cons (ps_if (pt_not (pt_val (pe_call (ok_tuple_within T) (hr.mono (by decide)) (by rfl) T.tuple_within.g T.tuple_within.F.kp T.tuple_within.b .nil pass0 (pa_cons (pv 0) (pa_cons pe_int (pa_cons (pe_glob (v := .int 8) (by rfl) T.c_MOST_STATES.choose_spec ⟨_, rfl⟩) pa_nil))))))
        (pss_one ps_never)
        pss_nil)
      (pss_one (ps_for PassesOwn.never rfl (pi_range1 (by rfl) T.n_range (pa_cons (pe_callB call_len_seq (by rfl) T.n_len PySem.boot_len (pa_cons (pv 0) pa_nil)) pa_nil)) (pg_name (i := 1) sc_check_form.nd rfl (.inl rfl))
        (pss_one (ps_if (pt_not (pt_val (pe_call (ok_has_state_form T) (hr.mono (by decide)) (by rfl) T.has_state_form.g T.has_state_form.F.kp T.has_state_form.b .nil pass0 (pa_cons (pe_ix ix_tup (pv 0) (pv 1) (fun _ _ => rfl)) (pa_cons (pe_callB call_len_seq (by rfl) T.n_len PySem.boot_len (pa_cons (pv 0) pa_nil)) pa_nil)))))
          (pss_one ps_never)
          pss_nil))))), ?_⟩
    refine ⟨_, rfl, a, _, 1, 8, rfl, ha, SqT.ty ha, _, rfl, notF (decide_eq_true ?_) ?_⟩
    · have h1 := ok.one
      have h2 := ok.eight
      rw [llen]
      exact ⟨by omega, by omega⟩
    have h2 := ok.eight
    refine ⟨_, rfl, a, _, rfl, .inr ha, _, rfl, by omega, by omega, for_range (lo := 0) (n := _) (fun k σ H' => H' = H ∧ ∃ y : Option V, σ = [some (.ref a), y]) ⟨rfl, _, rfl⟩ ?_ ?_⟩
    · rintro k σ H' hk ⟨rfl, y, rfl⟩
      simp only [Int.zero_add]
      rw [Int.toNat_natCast] at hk
      obtain ⟨u, hu, hst⟩ := Paired.get hls (mvs_lt (b := b) (s := k) (by omega))
      refine ⟨_, rfl, _, rfl, a, _, _, _, rfl, rfl, ha, atI_nat hu, _, rfl, a, _, rfl, .inr ha, u, _, b.length, by rw [llen]; rfl, hst, ok.ok (by omega), _, rfl, notF rfl ⟨rfl, _, rfl⟩⟩
    · rintro σ H' ⟨rfl, y, rfl⟩
      exact q
theorem sc_first_rows : FnScope ["states", "start", "rows", "order", "done", "state", "message", "to"] ["states", "start"] (defScope s_first_rows) := ⟨rfl, rfl, rfl, by decide +kernel, rfl, by decide +kernel, by decide +kernel⟩
def sp_first_rows (K : PySem.W.Frag) : Sp := fun vs H Q _ => ∃ (v : V) (b : Book), vs = [v, .int 0] ∧ BkW K H v b ∧ FormB b ∧ ∀ (F : List Nat) (kvs : List (Key × V)) (d : Addr) (H' : Hp), Met b F → kvs.map (·.1) = F.map kN → H' d = some (.dK kvs) → Ext [] H H' → Q (.ref d) H'
theorem ok_first_rows (T : Tx K mg) : FnOk P w K mg base CX0 1 T.first_rows.f T.first_rows.fd ["states", "start"] (sp_first_rows K) := by
  refine T.first_rows.F.ok sc_first_rows (fun vs H Q E h => ?_) (fun cdv A outer s H vs Q E hr h => ?_)
  · obtain ⟨v, b, rfl, _⟩ := h; rfl
  · obtain ⟨v, b, rfl, ⟨a, ls, rfl, ha, hls⟩, ok, q⟩ := h
    have llen := Paired.len hls
    have h8 := ok.eight
    refine ⟨_, (pss_cons (ps_set (i := 2) sc_first_rows.nd rfl (.inl rfl) (pe_disp (pps_cons (pv 1) (pe_tup pa_nil) pps_nil) (by rfl) (by rfl) (fun z => by cases z) (by decide)))
      (pss_cons (ps_set (i := 3) sc_first_rows.nd rfl (.inl rfl) (pe_lst (pa_cons (pv 1) pa_nil)))
      (pss_cons (ps_set (i := 4) sc_first_rows.nd rfl (.inl rfl) pe_int)
      (pss_cons (ps_while PassesOwn.never (pt_cmpR op_lt (pv 4) (pe_callB call_len_seq (by rfl) T.n_len PySem.boot_len (pa_cons (pv 3) pa_nil)) (nomark _))
        (pss_cons (ps_set (i := 5) sc_first_rows.nd rfl (.inl rfl) (pe_ix ix_list (pv 3) (pv 4) (fun _ _ => rfl)))
        (pss_cons (ps_aug (i := 4) sc_first_rows.nd rfl (.inl rfl) pe_int ip_add)
        (pss_one (ps_for PassesOwn.never rfl (pi_tup (pe_ix ix_tup (pv 0) (pv 5) (fun _ _ => rfl))) (pg_tup rfl (pgs_cons (pg_name (i := 6) sc_first_rows.nd rfl (.inl rfl)) (pgs_cons (pg_name (i := 7) sc_first_rows.nd rfl (.inl rfl)) pgs_nil)))
          (pss_one (ps_if (pt_cmp (pc_dnotin (hu_of hr) (pv 7) (pv 2)))
            (pss_cons (ps_dput (hu_of hr) (pv 2) (pv 7) (pe_op op_catA (pe_dget (hu_of hr) (pv 2) (pv 5) (fun _ _ => rfl)) (pe_tup (pa_cons (pv 6) pa_nil))) rfl)
            (pss_one (ps_expr (pe_bm PySem.F.plainAttrs_list PySem.F.slot_list_append PySem.F.type_list_append mt_append (pv 3) (pa_cons (pv 7) pa_nil)))))
            pss_nil)))))))
      (pss_one (ps_ret (pv 2))))))), ?_⟩
    -- rows = {0: ()}
    refine fun d hd => ⟨_, rfl, Nat.zero_le _, fun t ht => ?_⟩
    have e1 : Ext [] H (upd H d (.dK [])) := .new hd
    have e2 := e1.trans (Ext.new (L := []) (o := .tup []) ht)
    have dt : d ≠ t := fun z => by rw [← z, upd_same] at ht; cases ht
    refine ⟨by rw [upd_ne dt, upd_same], [(kN 0, .ref t)], rfl, (by show 1 ≤ 15; decide), ?_⟩
    have e3 := e2.put (o := .dK (mergeK [] [(kN 0, .ref t)])) hd
    have hd3 : upd (upd (upd H d (.dK [])) t (.tup [])) d (.dK (mergeK [] [(kN 0, .ref t)])) d = some (.dK [(kN 0, .ref t)]) := upd_same
    have ht3 : upd (upd (upd H d (.dK [])) t (.tup [])) d (.dK (mergeK [] [(kN 0, .ref t)])) t = some (.tup []) := by rw [upd_ne dt.symm, upd_same]
    generalize upd (upd (upd H d (.dK [])) t (.tup [])) d (.dK (mergeK [] [(kN 0, .ref t)])) = H3 at *
    -- order = [0]
    refine ⟨_, rfl, (by show 1 ≤ sizeLine; decide), fun o ho => ?_⟩
    have ho0 : H o = none := e3.free ho
    have od : d ≠ o := ne_of_none hd3 ho
    have e4 := e3.put2 (o := .lst [.int 0]) ho
    -- the loop
    let Row : Hp → Nat → V → Prop := fun H' m v => ∃ (x : Addr) (xs : List V), v = .ref x ∧ SqT K H' x xs ∧ xs.length ≤ m
    refine ⟨fun m σ H' => ∃ (F : List Nat) (kvs : List (Key × V)) (i : Nat) (y4 y5 y6 : Option V), σ = [some (.ref a), some (.int 0), some (.ref d), some (.ref o), some (.int i), y4, y5, y6] ∧ MetI b F i ∧ m = b.length - i ∧ H' o = some (.lst (F.map nV)) ∧ H' d = some (.dK kvs) ∧ kvs.map (·.1) = F.map kN ∧ (∀ e ∈ kvs, Row H' F.length e.2) ∧ Ext [] H H',
      ⟨_, [0], [(kN 0, .ref t)], 0, _, _, _, rfl, .first ok.one, rfl, upd_same, by rw [upd_ne od]; exact hd3, rfl, fun e he => ?_, e4⟩, ?_⟩
    · obtain rfl := List.mem_singleton.mp he
      have ot : t ≠ o := ne_of_none ht3 ho
      exact ⟨t, [], rfl, .of (by rw [upd_ne ot]; exact ht3), Nat.zero_le _⟩
    rintro m σ H' ⟨F, kvs, i, y4, y5, y6, rfl, mi, rfl, hF, hD, hk, hrow, e⟩
    have Fle : F.length ≤ b.length := nodup_le mi.nd mi.lt
    refine ⟨_, rfl, _, rfl, o, _, rfl, .inl (.of hF), _, _, rfl, rfl, _, rfl, ite2 (fun z => ?_) (fun z => ?_)⟩
    · have z := of_decide_eq_true z
      rw [List.length_map] at z
      have hiF : i < F.length := by omega
      have hs : F[i]? = some F[i] := List.getElem?_eq_getElem hiF
      generalize F[i] = x at hs
      have hx : x < b.length := mi.lt x (List.mem_of_getElem? hs)
      obtain ⟨u, hu, c, ps, rfl, hc, hps⟩ := Paired.get hls (mvs_lt hx)
      have plen := Paired.len hps
      refine ⟨fun σ H' => ∃ (F : List Nat) (kvs : List (Key × V)) (y4 y5 y6 : Option V), σ = [some (.ref a), some (.int 0), some (.ref d), some (.ref o), some (.int (i + 1 : Nat)), y4, y5, y6] ∧ MetI b F (i + 1) ∧ H' o = some (.lst (F.map nV)) ∧ H' d = some (.dK kvs) ∧ kvs.map (·.1) = F.map kN ∧ (∀ e ∈ kvs, Row H' F.length e.2) ∧ Ext [] H H', ?_, ?_⟩
      · rintro σ' H' ⟨F, kvs, y4, y5, y6, rfl, mi, r⟩
        exact ⟨b.length - (i + 1), by omega, F, kvs, i + 1, _, _, _, rfl, mi, rfl, r⟩
      refine ⟨_, rfl, _, rfl, o, _, _, _, rfl, rfl, .of hF, atI_nat (at_map hs), ?_⟩
      refine ⟨_, rfl, _, _, rfl, rfl, ?_⟩
      refine ⟨_, rfl, _, rfl, a, _, _, _, rfl, rfl, e.tup Lsts.nil ha, atI_nat hu, c, rfl, ⟨_, (e.tup Lsts.nil hc)⟩, ?_⟩
      refine for_tup (K := K) (a := c) (xs := ps.map V.ref) (fun k σ H' => ∃ (F : List Nat) (kvs : List (Key × V)) (y5 y6 : Option V), σ = [some (.ref a), some (.int 0), some (.ref d), some (.ref o), some (.int ((i : Int) + 1)), some (nV x), y5, y6] ∧ MetW b F i x k ∧ H' o = some (.lst (F.map nV)) ∧ H' d = some (.dK kvs) ∧ kvs.map (·.1) = F.map kN ∧ (∀ e ∈ kvs, Row H' F.length e.2) ∧ Ext [] H H')
        ⟨F, kvs, _, _, rfl, mi.begin hs, hF, hD, hk, hrow, e⟩ (fun k σ H' _ ⟨_, _, _, _, _, _, _, _, _, _, e⟩ => (e.tup Lsts.nil hc)) ?_ ?_
      · rintro k v σ H' hv ⟨F, kvs, y5, y6, rfl, mw, hF, hD, hk, hrow, e⟩
        obtain ⟨g, hg, rfl⟩ := map_at hv
        obtain ⟨p, hp, hcp⟩ := Paired.get' hps hg
        have hcp := hcp.ext0 e
        have Fle : F.length ≤ b.length := nodup_le mw.nd mw.lt
        have pb : p.2 < b.length := ok.to (List.mem_of_getElem? hp)
        refine ⟨g, _, rfl, hcp, rfl, _, _, rfl, _, _, rfl, rfl, ?_⟩
        refine ⟨_, rfl, _, rfl, d, _, rfl, DGet.k (k := kN p.2) hD, _, rfl, ?_⟩
        rw [valV_key hk]
        by_cases hin : p.2 ∈ F
        · rw [decide_eq_true hin]
          exact iteF ⟨F, kvs, _, _, rfl, mw.skip hp hin, hF, hD, hk, hrow, e⟩
        · rw [decide_eq_false hin]
          refine iteT ?_
          -- rows[state] + (message,)
          have xin : x ∈ F := List.mem_of_getElem? mw.here
          have hsome : (valV kvs (kN x)).isSome = true := by rw [valV_key hk]; exact decide_eq_true xin
          obtain ⟨rv, hrv⟩ := Option.isSome_iff_exists.mp hsome
          obtain ⟨r, rs, er, hr1, hr2⟩ := hrow _ (valV_mem hrv)
          have er : rv = .ref r := er
          subst er
          have newk : valV kvs (kN p.2) = none := by
            have := valV_key hk p.2
            rw [decide_eq_false hin] at this
            cases h : valV kvs (kN p.2) with
            | none => rfl
            | some z => rw [h] at this; cases this
          have klen : kvs.length = F.length := by have := congrArg List.length hk; simpa using this
          -- behind the new row: the dict, the list
          have fin : ∀ (nr : Addr) (ys : List V) (H4 : Hp), Ext [] H' H4 → SqT K H4 nr ys → ys.length ≤ F.length + 1 → ∃ H5, DPut H4 d (.int p.2) (.ref nr) H5 ∧
              ∃ q5 : H5 = upd H4 d (.dK (kvs ++ [(kN p.2, .ref nr)])), H5 o = some (.lst (F.map nV)) ∧ H5 d = some (.dK (kvs ++ [(kN p.2, .ref nr)])) ∧ (∀ e ∈ kvs ++ [(kN p.2, .ref nr)], Row H5 (F.length + 1) e.2) ∧ Ext [] H H5 := by
            intro nr ys H4 e4 hn hl
            have hD4 := e4.at hD (by simp)
            have hF4 := e4.at hF (by simp)
            refine ⟨_, DPut.k (k := kN p.2) hD4 (small1000 (by omega)), by rw [putK_new _ newk], ?_⟩
            rw [putK_new _ newk]
            have ee : Ext [d] H4 (upd H4 d (.dK (kvs ++ [(kN p.2, .ref nr)]))) := .wr (by simp)
            refine ⟨by rw [upd_ne od.symm]; exact hF4, upd_same, fun z hz => ?_, (e.trans e4).put hd⟩
            rcases List.mem_append.mp hz with hz | hz
            · obtain ⟨x, xs, h1, h2, h3⟩ := hrow z hz
              exact ⟨x, xs, h1, ee.tup (one_dk hD4) (e4.tup Lsts.nil h2), by omega⟩
            · obtain rfl := List.mem_singleton.mp hz
              exact ⟨nr, ys, rfl, ee.tup (one_dk hD4) hn, hl⟩
          have last : ∀ (nr : Addr) (H5 : Hp), H5 o = some (.lst (F.map nV)) → H5 d = some (.dK (kvs ++ [(kN p.2, .ref nr)])) → (∀ e ∈ kvs ++ [(kN p.2, .ref nr)], Row H5 (F.length + 1) e.2) → Ext [] H H5 →
              ∃ (F' : List Nat) (kvs' : List (Key × V)) (y5 y6 : Option V), [some (.ref a), some (.int 0), some (.ref d), some (.ref o), some (.int ((i : Int) + 1)), some (nV x), some (.int p.1), some (.int p.2)] = [some (.ref a), some (.int 0), some (.ref d), some (.ref o), some (.int ((i : Int) + 1)), some (nV x), y5, y6] ∧
                MetW b F' i x (k + 1) ∧ upd H5 o (.lst (F.map nV ++ [.int p.2])) o = some (.lst (F'.map nV)) ∧ upd H5 o (.lst (F.map nV ++ [.int p.2])) d = some (.dK kvs') ∧ kvs'.map (·.1) = F'.map kN ∧ (∀ e ∈ kvs', Row (upd H5 o (.lst (F.map nV ++ [.int p.2]))) F'.length e.2) ∧ Ext [] H (upd H5 o (.lst (F.map nV ++ [.int p.2]))) := by
            intro nr H5 h1 h2 h3 h4
            refine ⟨F ++ [p.2], kvs ++ [(kN p.2, .ref nr)], _, _, rfl, mw.push hp hin pb, by rw [upd_same, List.map_append]; rfl, by rw [upd_ne od]; exact h2, by rw [List.map_append, List.map_append, hk]; rfl, fun z hz => ?_, h4.put ho0⟩
            obtain ⟨x, xs, g1, g2, g3⟩ := h3 z hz
            exact ⟨x, xs, g1, Ext.tup (L := [o]) (.wr (by simp)) (one_lst h1) g2, by rw [List.length_append]; exact g3⟩
          refine ⟨_, rfl, _, rfl, d, _, rfl, by rw [← hrv]; exact DGet.k (k := kN x) hD, _, rfl, (by show 1 ≤ sizeLine; decide), fun g2 hg2 => ?_⟩
          have e5 : Ext [] H' (upd H' g2 (.tup [.int p.1])) := .new hg2
          refine ⟨r, g2, rs, _, rfl, rfl, e5.tup Lsts.nil hr1, .of upd_same, ?_, fun h0 => ?_, fun _ h0 => (by cases h0), fun _ _ g3 hg3 => ?_⟩
          · show rs.length + 1 ≤ sizeLine
            exact Nat.le_of_lt (small1000 (by omega))
          · obtain ⟨H5, dp, _, f1, f2, f3, f4⟩ := fin g2 [.int p.1] _ e5 (.of upd_same) (by simp)
            refine ⟨_, rfl, _, rfl, d, H5, rfl, dp, ?_⟩
            exact ⟨_, rfl, .inl ⟨rfl, _, .of f1⟩, _, rfl, o, _, _, rfl, rfl, f1, by rw [List.length_map]; exact small1000 (by omega), last g2 H5 f1 f2 f3 f4⟩
          · obtain ⟨H5, dp, _, f1, f2, f3, f4⟩ := fin g3 (rs ++ [.int p.1]) _ (e5.put2 hg3) (.of upd_same) (by rw [List.length_append]; show rs.length + 1 ≤ _; omega)
            refine ⟨_, rfl, _, rfl, d, H5, rfl, dp, ?_⟩
            exact ⟨_, rfl, .inl ⟨rfl, _, .of f1⟩, _, rfl, o, _, _, rfl, rfl, f1, by rw [List.length_map]; exact small1000 (by omega), last g3 H5 f1 f2 f3 f4⟩
      · rintro σ H' ⟨F, kvs, y5, y6, rfl, mw, hF, hD, hk, hrow, e⟩
        exact ⟨F, kvs, _, _, _, by rw [Int.natCast_add]; rfl, mw.done (by rw [List.length_map, plen]; exact Nat.le_refl _), hF, hD, hk, hrow, e⟩
    · have z : ¬ ((i : Int) < ((F.map nV).length : Int)) := fun y => z (decide_eq_true y)
      rw [List.length_map] at z
      have := mi.le
      exact ⟨_, rfl, q F kvs d H' (mi.met (.inl (by omega))) hk hD e⟩
theorem Met.all {b : Book} {F : List Nat} (m : Met b F) {s : Nat} (h : Rch b s) : s ∈ F := by
  induction h with
  | zero => exact List.mem_of_getElem? m.zero
  | step _ hp ih => exact m.cl _ ih _ hp
theorem sc_made_book : FnScope ["thing", "reached", "state"] ["thing"] (defScope s_made_book) := ⟨rfl, rfl, rfl, by decide +kernel, rfl, by decide +kernel, by decide +kernel⟩
def sp_made_book (K : PySem.W.Frag) : Sp := fun vs H Q _ => ∃ (v : V) (b : Book), vs = [v] ∧ BkV K H v b ∧ OkB b ∧ ∀ H', Ext [] H H' → Q v H'
theorem ok_made_book (T : Tx K mg) : FnOk P w K mg base CX0 5 T.made_book.f T.made_book.fd ["thing"] (sp_made_book K) := by
  refine T.made_book.F.ok sc_made_book (fun vs H Q E h => ?_) (fun cdv A outer s H vs Q E hr h => ?_)
  · obtain ⟨v, b, rfl, _⟩ := h; rfl
  · obtain ⟨v, b, rfl, hb, ok, q⟩ := h
    refine ⟨_, (pss_cons (ps_expr (pe_call (ok_check_form T) (hr.mono (by decide)) (by rfl) T.check_form.g T.check_form.F.kp T.check_form.b .nil pass0 (pa_cons (pv 0) pa_nil)))
      (pss_cons (ps_set (i := 1) sc_made_book.nd rfl (.inl rfl) (pe_call (ok_first_rows T) (hr.mono (by decide)) (by rfl) T.first_rows.g T.first_rows.F.kp T.first_rows.bD.choose_spec.2 T.first_rows.bD.choose_spec.1 pass0 (pa_cons (pv 0) pa_nil)))
      (pss_cons (ps_for PassesOwn.never rfl (pi_range1 (by rfl) T.n_range (pa_cons (pe_callB call_len_seq (by rfl) T.n_len PySem.boot_len (pa_cons (pv 0) pa_nil)) pa_nil)) (pg_name (i := 2) sc_made_book.nd rfl (.inl rfl))
        (pss_one (ps_if (pt_cmp (pc_dnotin (hu_of hr) (pv 2) (pv 1)))
          (pss_one ps_never)
          pss_nil)))
      (pss_one (ps_ret (pv 0)))))), ?_⟩
    refine ⟨_, rfl, v, b, rfl, hb, ok.toFormB, ?_⟩
    refine ⟨_, rfl, v, b, rfl, hb.wk, ok.toFormB, fun F kvs d H' mt hk hd e => ?_⟩
    obtain ⟨a, ls, rfl, ha, hls⟩ := hb
    have llen := Paired.len hls
    have h8 := ok.eight
    refine ⟨_, rfl, a, _, rfl, .inr (e.tup Lsts.nil ha), _, rfl, by omega, by omega, for_range (lo := 0) (n := _) (fun k σ H2 => H2 = H' ∧ ∃ y : Option V, σ = [some (.ref a), some (.ref d), y]) ⟨rfl, _, rfl⟩ ?_ ?_⟩
    · rintro k σ H2 hk' ⟨rfl, y, rfl⟩
      simp only [Int.zero_add]
      rw [Int.toNat_natCast] at hk'
      refine ⟨_, rfl, _, rfl, d, _, rfl, DGet.k (k := kN k) hd, _, rfl, ?_⟩
      rw [valV_key hk, decide_eq_true (mt.all (ok.reach k (by omega)))]
      exact iteF ⟨rfl, _, rfl⟩
    · rintro σ H2 ⟨rfl, y, rfl⟩
      exact ⟨_, rfl, q _ e⟩
end
end Nv
set_option Elab.async false
set_option linter.all false
set_option maxRecDepth 100000
namespace Nv
open PySem PySem.Spec PyProof.Rows L2
/-! ### comprehensions of some forms -/
abbrev LcEnd (g : TG) (tt : TT) (te : TE) (vs : List Nat) (σ : L2.St) (D : Addr) (J : It) (H1 : Hp) (Qd : Hp → Prop) : Prop := ∃ W : Nat → Nat → Hp → Prop, (∃ m, W 0 m (upd H1 D (.lst []))) ∧ ∀ i m H, W i m H →
  (J.stop i H ∧ Qd H) ∨ (J.go i H ∧ ∃ Nx : Hp → Prop, (∀ H', Nx H' → ∃ m', m' < m ∧ W (i + 1) m' H') ∧ ∀ x H', J.yld i H x H' → g x (wipe σ vs) H' fun σ2 H2 => wipe σ2 vs = wipe σ vs ∧ tt σ2 H2 fun b H3 =>
    if b = true then te σ2 H3 fun y H4 => ∃ acc, H4 D = some (.lst acc) ∧ acc.length < sizeLine ∧ Nx (upd H4 D (.lst (acc ++ [y]))) else Nx H3)
theorem filter_take {α : Type} (f : α → Bool) {l : List α} {i : Nat} {x : α} (h : l[i]? = some x) : (l.take (i + 1)).filter f = (l.take i).filter f ++ (if f x = true then [x] else []) := by
  rw [List.take_add_one, h, List.filter_append]
  cases e : f x <;> simp [e]
/-- [x for x in l if test]: l holds numbers -/
theorem filt_list {K : PySem.W.Frag} {a : Addr} {l : List Nat} {j : Nat} {vs : List Nat} {σ : L2.St} {H1 : Hp} {D : Addr} {Qd : Hp → Prop} {tt : TT} (f : Nat → Bool) (hD : H1 D = none) (hl : SqL K H1 a (l.map nV)) (hn : l.length < 1000)
    (hj : ∀ v : V, ((wipe σ vs).set j (some v))[j]? = some (some v)) (hw : ∀ v : V, wipe ((wipe σ vs).set j (some v)) vs = wipe σ vs)
    (ht : ∀ k H', k ∈ l → Ext [] H1 H' → tt ((wipe σ vs).set j (some (nV k))) H' (fun b H3 => b = f k ∧ Ext [] H' H3))
    (hd : ∀ H', H' D = some (.lst ((l.filter f).map nV)) → Ext [] H1 H' → Qd H') : LcEnd (gName j) (tMidT tt) (tVar j) vs σ D (Itl K a) H1 Qd := by
  refine lc_list (K := K) (a := a) (xs := l.map nV) (fun i H' => H' D = some (.lst (((l.take i).filter f).map nV)) ∧ Ext [] H1 H') ⟨upd_same, .new hD⟩ (fun i H' _ ⟨_, e⟩ => e.frz (by simp) hl) ?_ ?_
  · rintro i v H' hv ⟨h1, e⟩
    obtain ⟨k, hk, rfl⟩ := map_at hv
    refine ⟨hw _, _, ht k H' (List.mem_of_getElem? hk) e, ?_⟩
    rintro b H3 ⟨rfl, e3⟩
    have h3 := e3.at h1 (by simp)
    rw [filter_take f hk]
    refine ifB (fun hf => ?_) (fun hf => ?_)
    · refine ⟨_, hj _, _, h3, ?_, ?_, (e.trans e3).put hD⟩
      · rw [List.length_map]
        refine small1000 (Nat.le_trans (List.length_filter_le _ _) ?_)
        rw [List.length_take]
        omega
      · rw [upd_same, hf]
        simp
    · rw [hf]
      simp only [Bool.false_eq_true, if_false, List.append_nil]
      exact ⟨h3, e.trans e3⟩
  · rintro H' ⟨h1, e⟩
    rw [List.length_map, List.take_length] at h1
    exact hd H' h1 e
/-- the same over a tuple -/
theorem filt_tup {K : PySem.W.Frag} {a : Addr} {l : List Nat} {j : Nat} {vs : List Nat} {σ : L2.St} {H1 : Hp} {D : Addr} {Qd : Hp → Prop} {tt : TT} (f : Nat → Bool) (hD : H1 D = none) (hl : SqT K H1 a (l.map nV)) (hn : l.length < 1000)
    (hj : ∀ v : V, ((wipe σ vs).set j (some v))[j]? = some (some v)) (hw : ∀ v : V, wipe ((wipe σ vs).set j (some v)) vs = wipe σ vs)
    (ht : ∀ k H', k ∈ l → Ext [] H1 H' → tt ((wipe σ vs).set j (some (nV k))) H' (fun b H3 => b = f k ∧ Ext [] H' H3))
    (hd : ∀ H', H' D = some (.lst ((l.filter f).map nV)) → Ext [] H1 H' → Qd H') : LcEnd (gName j) (tMidT tt) (tVar j) vs σ D (Itt K a) H1 Qd := by
  refine lc_tup (K := K) (a := a) (xs := l.map nV) (fun i H' => H' D = some (.lst (((l.take i).filter f).map nV)) ∧ Ext [] H1 H') ⟨upd_same, .new hD⟩ (fun i H' _ ⟨_, e⟩ => e.tup Lsts.nil hl) ?_ ?_
  · rintro i v H' hv ⟨h1, e⟩
    obtain ⟨k, hk, rfl⟩ := map_at hv
    refine ⟨hw _, _, ht k H' (List.mem_of_getElem? hk) e, ?_⟩
    rintro b H3 ⟨rfl, e3⟩
    have h3 := e3.at h1 (by simp)
    rw [filter_take f hk]
    refine ifB (fun hf => ?_) (fun hf => ?_)
    · refine ⟨_, hj _, _, h3, ?_, ?_, (e.trans e3).put hD⟩
      · rw [List.length_map]
        refine small1000 (Nat.le_trans (List.length_filter_le _ _) ?_)
        rw [List.length_take]
        omega
      · rw [upd_same, hf]
        simp
    · rw [hf]
      simp only [Bool.false_eq_true, if_false, List.append_nil]
      exact ⟨h3, e.trans e3⟩
  · rintro H' ⟨h1, e⟩
    rw [List.length_map, List.take_length] at h1
    exact hd H' h1 e
/-- [x for x in range(n) if test] -/
theorem filt_range {n : Nat} {j : Nat} {vs : List Nat} {σ : L2.St} {H1 : Hp} {D : Addr} {Qd : Hp → Prop} {tt : TT} (f : Nat → Bool) (hD : H1 D = none) (hn : n < 1000)
    (hj : ∀ v : V, ((wipe σ vs).set j (some v))[j]? = some (some v)) (hw : ∀ v : V, wipe ((wipe σ vs).set j (some v)) vs = wipe σ vs)
    (ht : ∀ k H', k < n → Ext [] H1 H' → tt ((wipe σ vs).set j (some (nV k))) H' (fun b H3 => b = f k ∧ Ext [] H' H3))
    (hd : ∀ H', H' D = some (.lst (((List.range n).filter f).map nV)) → Ext [] H1 H' → Qd H') : LcEnd (gName j) (tMidT tt) (tVar j) vs σ D (Itr 0 n) H1 Qd := by
  refine lc_range (lo := 0) (n := n) (fun i H' => H' D = some (.lst ((((List.range n).take i).filter f).map nV)) ∧ Ext [] H1 H') ⟨upd_same, .new hD⟩ ?_ ?_
  · rintro i H' hi ⟨h1, e⟩
    have hk : (List.range n)[i]? = some i := by rw [List.getElem?_range hi]
    simp only [Int.zero_add]
    refine ⟨hw _, _, ht i H' hi e, ?_⟩
    rintro b H3 ⟨rfl, e3⟩
    have h3 := e3.at h1 (by simp)
    rw [filter_take f hk]
    refine ifB (fun hf => ?_) (fun hf => ?_)
    · refine ⟨_, hj _, _, h3, ?_, ?_, (e.trans e3).put hD⟩
      · rw [List.length_map]
        refine small1000 (Nat.le_trans (List.length_filter_le _ _) ?_)
        rw [List.length_take, List.length_range]
        omega
      · rw [upd_same, hf]
        simp
    · rw [hf]
      simp only [Bool.false_eq_true, if_false, List.append_nil]
      exact ⟨h3, e.trans e3⟩
  · rintro H' ⟨h1, e⟩
    rw [List.take_of_length_le (by simp)] at h1
    exact hd H' h1 e
/-- two clauses: the first over a list -/
theorem lc2_list {K : PySem.W.Frag} {a : Addr} {xs : List V} {g g1 : TG} {tt tt1 : TT} {wi1 : TI} {te : TE} {vs vs1 : List Nat} {σ : L2.St} {H1 : Hp} {D : Addr} {Qd : Hp → Prop} (Pv : Nat → Hp → Prop) (h0 : Pv 0 (upd H1 D (.lst []))) (hl : ∀ i H, i ≤ xs.length → Pv i H → SqL K H a xs)
    (hs : ∀ i x H, xs[i]? = some x → Pv i H → g x (wipe σ vs) H fun σ2 H2 => wipe σ2 vs = wipe σ vs ∧ tt σ2 H2 fun b H3 => if b = true then wi1 σ2 H3 fun J1 H4 => ∃ W1 : Nat → Nat → Hp → Prop, (∃ m, W1 0 m H4) ∧ ∀ j k H, W1 j k H →
      (J1.stop j H ∧ Pv (i + 1) H) ∨ (J1.go j H ∧ ∃ Nx1 : Hp → Prop, (∀ H', Nx1 H' → ∃ k', k' < k ∧ W1 (j + 1) k' H') ∧ ∀ x H', J1.yld j H x H' → g1 x (wipe σ2 vs1) H' fun σ3 H5 => wipe σ3 vs1 = wipe σ2 vs1 ∧ tt1 σ3 H5 fun b H6 =>
        if b = true then te σ3 H6 fun y H7 => ∃ acc, H7 D = some (.lst acc) ∧ acc.length < sizeLine ∧ Nx1 (upd H7 D (.lst (acc ++ [y]))) else Nx1 H6) else Pv (i + 1) H3)
    (hd : ∀ H, Pv xs.length H → Qd H) :
    ∃ W : Nat → Nat → Hp → Prop, (∃ m, W 0 m (upd H1 D (.lst []))) ∧ ∀ i m H, W i m H →
      ((Itl K a).stop i H ∧ Qd H) ∨ ((Itl K a).go i H ∧ ∃ Nx : Hp → Prop, (∀ H', Nx H' → ∃ m', m' < m ∧ W (i + 1) m' H') ∧ ∀ x H', (Itl K a).yld i H x H' → g x (wipe σ vs) H' fun σ2 H2 => wipe σ2 vs = wipe σ vs ∧ tt σ2 H2 fun b H3 =>
        if b = true then wi1 σ2 H3 fun J1 H4 => ∃ W1 : Nat → Nat → Hp → Prop, (∃ m, W1 0 m H4) ∧ ∀ j k H, W1 j k H →
          (J1.stop j H ∧ Nx H) ∨ (J1.go j H ∧ ∃ Nx1 : Hp → Prop, (∀ H', Nx1 H' → ∃ k', k' < k ∧ W1 (j + 1) k' H') ∧ ∀ x H', J1.yld j H x H' → g1 x (wipe σ2 vs1) H' fun σ3 H5 => wipe σ3 vs1 = wipe σ2 vs1 ∧ tt1 σ3 H5 fun b H6 =>
            if b = true then te σ3 H6 fun y H7 => ∃ acc, H7 D = some (.lst acc) ∧ acc.length < sizeLine ∧ Nx1 (upd H7 D (.lst (acc ++ [y]))) else Nx1 H6)
        else Nx H3) := by
  refine ⟨fun i m H => m = xs.length - i ∧ i ≤ xs.length ∧ Pv i H, ⟨xs.length, by simp, Nat.zero_le _, h0⟩, ?_⟩
  rintro i m H ⟨rfl, hi, p⟩
  have q := hl i H hi p
  by_cases lt : i < xs.length
  · refine .inr ⟨⟨xs, xs[i], q, List.getElem?_eq_getElem lt⟩, Pv (i + 1), fun H' p' => ⟨xs.length - (i + 1), by omega, rfl, lt, p'⟩, fun x H' y => ?_⟩
    obtain ⟨rfl, y2⟩ := y
    exact hs i x H' (y2 xs q) p
  · have e : i = xs.length := by omega
    subst e
    exact .inl ⟨⟨xs, q, Nat.le_refl _⟩, hd H p⟩
/-- the second over a tuple -/
theorem lc2_tup {K : PySem.W.Frag} {c : Addr} {ys : List V} {g1 : TG} {tt1 : TT} {te : TE} {vs1 : List Nat} {σ2 : L2.St} {H4 : Hp} {D : Addr} {Nx : Hp → Prop} (Pv : Nat → Hp → Prop) (h0 : Pv 0 H4) (hl : ∀ j H, j ≤ ys.length → Pv j H → SqT K H c ys)
    (hs : ∀ j y H, ys[j]? = some y → Pv j H → g1 y (wipe σ2 vs1) H fun σ3 H5 => wipe σ3 vs1 = wipe σ2 vs1 ∧ tt1 σ3 H5 fun b H6 =>
      if b = true then te σ3 H6 fun y H7 => ∃ acc, H7 D = some (.lst acc) ∧ acc.length < sizeLine ∧ Pv (j + 1) (upd H7 D (.lst (acc ++ [y]))) else Pv (j + 1) H6) (hd : ∀ H, Pv ys.length H → Nx H) :
    ∃ W1 : Nat → Nat → Hp → Prop, (∃ m, W1 0 m H4) ∧ ∀ j k H, W1 j k H →
      ((Itt K c).stop j H ∧ Nx H) ∨ ((Itt K c).go j H ∧ ∃ Nx1 : Hp → Prop, (∀ H', Nx1 H' → ∃ k', k' < k ∧ W1 (j + 1) k' H') ∧ ∀ x H', (Itt K c).yld j H x H' → g1 x (wipe σ2 vs1) H' fun σ3 H5 => wipe σ3 vs1 = wipe σ2 vs1 ∧ tt1 σ3 H5 fun b H6 =>
        if b = true then te σ3 H6 fun y H7 => ∃ acc, H7 D = some (.lst acc) ∧ acc.length < sizeLine ∧ Nx1 (upd H7 D (.lst (acc ++ [y]))) else Nx1 H6) := by
  refine ⟨fun i m H => m = ys.length - i ∧ i ≤ ys.length ∧ Pv i H, ⟨ys.length, by simp, Nat.zero_le _, h0⟩, ?_⟩
  rintro i m H ⟨rfl, hi, p⟩
  have q := hl i H hi p
  by_cases lt : i < ys.length
  · refine .inr ⟨⟨ys, ys[i], q, List.getElem?_eq_getElem lt⟩, Pv (i + 1), fun H' p' => ⟨ys.length - (i + 1), by omega, rfl, lt, p'⟩, fun x H' y => ?_⟩
    obtain ⟨rfl, y2⟩ := y
    exact hs i x H' (y2 ys q) p
  · have e : i = ys.length := by omega
    subst e
    exact .inl ⟨⟨ys, q, Nat.le_refl _⟩, hd H p⟩
end Nv
set_option linter.all false
namespace Nv
/-! ### forks, reach, ways back -/
theorem srt_eq : ∀ {l m : List Nat}, l.Pairwise (· < ·) → m.Pairwise (· < ·) → (∀ k, k ∈ l ↔ k ∈ m) → l = m
  | [], [], _, _, _ => rfl
  | [], b :: m, _, _, h => by have := (h b).mpr (by simp); cases this
  | a :: l, [], _, _, h => by have := (h a).mp (by simp); cases this
  | a :: l, b :: m, h1, h2, h => by
    obtain ⟨a1, a2⟩ := List.pairwise_cons.mp h1
    obtain ⟨b1, b2⟩ := List.pairwise_cons.mp h2
    have e : a = b := by
      have p := (h a).mp (by simp)
      have q := (h b).mpr (by simp)
      rcases List.mem_cons.mp p with p | p
      · exact p
      · rcases List.mem_cons.mp q with q | q
        · exact q.symm
        · have := b1 a p
          have := a1 b q
          omega
    subst e
    rw [srt_eq a2 b2 fun k => ?_]
    constructor
    · intro hk
      rcases List.mem_cons.mp ((h k).mp (List.mem_cons_of_mem _ hk)) with e | e
      · have := a1 k hk; omega
      · exact e
    · intro hk
      rcases List.mem_cons.mp ((h k).mpr (List.mem_cons_of_mem _ hk)) with e | e
      · have := b1 k hk; omega
      · exact e
theorem filt_srt (n : Nat) (f : Nat → Bool) : ((List.range n).filter f).Pairwise (· < ·) := List.Pairwise.sublist List.filter_sublist List.pairwise_lt_range
theorem mem_filt {n : Nat} {f : Nat → Bool} {k : Nat} : k ∈ (List.range n).filter f ↔ k < n ∧ f k = true := by rw [List.mem_filter, List.mem_range]
def forksM (b : Book) : List Nat := (List.range b.length).filter fun s => decide (1 < (mvs b s).length)
/-- one message further -/
def nextB (b : Book) (L : List Nat) (k : Nat) : Bool := decide (k ∈ L) || L.any fun j => (mvs b j).any fun p => p.2 == k
def stepL (b : Book) (L : List Nat) : List Nat := (List.range b.length).filter (nextB b L)
def wiL (b : Book) (s : Nat) : Nat → List Nat
  | 0 => [s]
  | n + 1 => stepL b (wiL b s n)
def reachL (b : Book) (s many : Nat) : List Nat := wiL b s (min many b.length)
def ledL (b : Book) (t many : Nat) : List Nat := if many = 0 then [] else reachL b t (many - 1)
theorem wiL_lt {b : Book} {s : Nat} (hs : s < b.length) : ∀ n, ∀ k ∈ wiL b s n, k < b.length
  | 0, k, hk => by rw [List.mem_singleton.mp hk]; exact hs
  | n + 1, k, hk => (mem_filt.mp hk).1
theorem wiL_srt (b : Book) (s : Nat) : ∀ n, (wiL b s n).Pairwise (· < ·)
  | 0 => by simp [wiL]
  | n + 1 => filt_srt _ _
theorem srt_nodup {l : List Nat} (h : l.Pairwise (· < ·)) : l.Nodup := List.Pairwise.imp (fun h e => by omega) h
theorem wiL_len {b : Book} {s : Nat} (hs : s < b.length) (n : Nat) : (wiL b s n).length ≤ b.length := nodup_le (srt_nodup (wiL_srt b s n)) (wiL_lt hs n)
def waysM (b : Book) (s : Nat) : Nat := ((mvs b s).filter fun p => decide (s ∈ reachL b p.2 b.length)).length
def knotsM (b : Book) : List Nat := (List.range b.length).filter fun s => decide (1 < waysM b s)
/-- a step's list, by what it has -/
theorem step_eq {b : Book} (fb : FormB b) {L ahead ms : List Nat} (hL : ∀ k ∈ L, k < b.length) (ha : ∀ k, k ∈ ahead ↔ ∃ j ∈ L, ∃ p ∈ mvs b j, p.2 = k) (h1 : ms.Pairwise (· < ·)) (h2 : ∀ k, k ∈ ms ↔ k ∈ L ∨ k ∈ ahead) : ms = stepL b L := by
  refine srt_eq h1 (filt_srt _ _) fun k => ?_
  rw [h2, ha]
  unfold stepL
  rw [mem_filt]
  unfold nextB
  rw [Bool.or_eq_true, decide_eq_true_eq, List.any_eq_true]
  constructor
  · rintro (h | ⟨j, hj, p, hp, e⟩)
    · exact ⟨hL k h, .inl h⟩
    · exact ⟨by rw [← e]; exact fb.to hp, .inr ⟨j, hj, by rw [List.any_eq_true]; exact ⟨p, hp, by simp [e]⟩⟩⟩
  · rintro ⟨_, h | ⟨j, hj, h⟩⟩
    · exact .inl h
    · rw [List.any_eq_true] at h
      obtain ⟨p, hp, e⟩ := h
      exact .inr ⟨j, hj, p, hp, by simpa using e⟩
def leadM (b : Book) (W s : Nat) (goals : List Nat) : List Nat := ((mvs b s).filter fun p => (ledL b p.2 (W - 1)).any fun k => decide (k ∈ goals)).map (·.1)
theorem reachL_lt {b : Book} {s m : Nat} (hs : s < b.length) : ∀ k ∈ reachL b s m, k < b.length := wiL_lt hs _
theorem ledL_lt {b : Book} {s m : Nat} (hs : s < b.length) : ∀ k ∈ ledL b s m, k < b.length := by
  unfold ledL
  split
  · intro k hk; cases hk
  · exact reachL_lt hs
/-! ### a dict of unlike keys -/
open L2 in
theorem valV_none_of {kvs : List (Key × V)} {k : Key} (h : k ∉ kvs.map (·.1)) : valV kvs k = none := by
  cases e : valV kvs k with
  | none => rfl
  | some v => exact absurd (List.mem_map.mpr ⟨_, valV_mem e, rfl⟩) h
open L2 in
theorem mergeK_nd : ∀ (more acc : List (Key × V)), ((acc ++ more).map (·.1)).Nodup → mergeK acc more = acc ++ more
  | [], acc, _ => by show acc = acc ++ []; rw [List.append_nil]
  | p :: r, acc, h => by
    have hp : valV acc p.1 = none := valV_none_of fun z => by
      rw [List.map_append, List.map_cons, List.nodup_append] at h
      exact h.2.2 _ z _ (by simp) rfl
    show mergeK (putK acc p.1 p.2) r = _
    rw [putK_new _ hp, mergeK_nd r (acc ++ [(p.1, p.2)]) (by rw [List.append_assoc]; exact h), List.append_assoc]
    rfl
open L2 in
theorem valV_nd : ∀ {kvs : List (Key × V)} {k : Key} {v : V}, (kvs.map (·.1)).Nodup → (k, v) ∈ kvs → valV kvs k = some v
  | [], _, _, _, h => nomatch h
  | p :: r, k, v, nd, h => by
    rw [List.map_cons, List.nodup_cons] at nd
    rcases List.mem_cons.mp h with h | h
    · subst h
      exact valV_pos rfl
    · have ne : ¬ p.1 = k := fun e => nd.1 (by rw [e]; exact List.mem_map.mpr ⟨_, h, rfl⟩)
      rw [valV_neg ne]
      exact valV_nd nd.2 h
/-! ### ranks, round by round -/
def setAll (r : List (Option Int)) (L : List Nat) (x : Int) : List (Option Int) := L.foldl (fun r f => r.set f (some x)) r
theorem setAll_snoc (r : List (Option Int)) (L : List Nat) (f : Nat) (x : Int) : setAll r (L ++ [f]) x = (setAll r L x).set f (some x) := by
  unfold setAll
  rw [List.foldl_append]
  rfl
theorem setAll_len : ∀ (L : List Nat) (r : List (Option Int)) (x : Int), (setAll r L x).length = r.length
  | [], _, _ => rfl
  | f :: L, r, x => by
    show (setAll (r.set f (some x)) L x).length = _
    rw [setAll_len L, List.length_set]
def fallM (b : Book) (W : Nat) (st : List Nat) : List Nat := st.filter fun f => decide ((leadM b W f st).length < 2)
def restM (b : Book) (W : Nat) (st : List Nat) : List Nat := st.filter fun f => !decide (f ∈ fallM b W st)
inductive Rk (b : Book) (W : Nat) : Nat → List Nat → List (Option Int) → List (Option Int) → List Nat → Prop
  | stop {t : Nat} {st : List Nat} {r : List (Option Int)} : fallM b W st = [] → Rk b W t st r (setAll r st (-1)) st
  | go {t : Nat} {st fin : List Nat} {r res : List (Option Int)} : fallM b W st ≠ [] → Rk b W (t + 1) (restM b W st) (setAll r (fallM b W st) t) res fin → Rk b W t st r res fin
theorem rest_len {b : Book} {W : Nat} {st : List Nat} (h : fallM b W st ≠ []) : (restM b W st).length < st.length := by
  obtain ⟨f, hf⟩ := List.exists_mem_of_ne_nil _ h
  have hs : f ∈ st := (List.mem_filter.mp hf).1
  unfold restM
  refine Nat.lt_of_le_of_ne (List.length_filter_le _ _) fun e => ?_
  have := List.length_filter_eq_length_iff.mp e f hs
  simp [hf] at this
def LastM (b : Book) (W : Nat) (res : List (Option Int)) (fin : List Nat) : Prop := Rk b W 0 (forksM b) (List.replicate b.length none) res fin
def lastL (b : Book) (res : List (Option Int)) : List Nat := (List.range b.length).filter fun s => decide (res[s]? = some (some (-1)))
/-- the least number where the window is a number -/
def leastM (b : Book) (res : List (Option Int)) : Nat := if mvs b 0 = [] then 0 else if forksM b = [] then 1 else if lastL b res = [] then 2 else 3
theorem rk_len {b : Book} {W t : Nat} {st fin : List Nat} {r res : List (Option Int)} (h : Rk b W t st r res fin) : res.length = r.length := by
  induction h with
  | stop _ => exact setAll_len _ _ _
  | go _ _ ih => rw [ih, setAll_len]
theorem rk_ex (b : Book) (W : Nat) : ∀ (n t : Nat) (st : List Nat) (r : List (Option Int)), st.length ≤ n → ∃ res fin, Rk b W t st r res fin := by
  intro n
  induction n with
  | zero =>
    intro t st r h
    have : st = [] := List.eq_nil_of_length_eq_zero (by omega)
    subst this
    exact ⟨_, _, .stop rfl⟩
  | succ n ih =>
    intro t st r h
    by_cases e : fallM b W st = []
    · exact ⟨_, _, .stop e⟩
    · obtain ⟨res, fin, k⟩ := ih (t + 1) (restM b W st) (setAll r (fallM b W st) t) (by have := rest_len e; omega)
      exact ⟨res, fin, .go e k⟩
theorem rk_fun {b : Book} {W t : Nat} {st fin fin' : List Nat} {r res res' : List (Option Int)} (h : Rk b W t st r res fin) (h' : Rk b W t st r res' fin') : res = res' ∧ fin = fin' := by
  induction h with
  | stop e =>
    cases h' with
    | stop _ => exact ⟨rfl, rfl⟩
    | go e' _ => exact absurd e e'
  | go e _ ih =>
    cases h' with
    | stop e' => exact absurd e' e
    | go _ k => exact ih k
open PySem PySem.Spec PyProof.Rows L2
/-- the first window for three wires -/
def FromW (b : Book) (o : Option Nat) : Prop := match o with
  | some W => 1 ≤ W ∧ W ≤ 9 ∧ (∃ res fin, LastM b W res fin ∧ leastM b res = 3) ∧ ∀ V, 1 ≤ V → V < W → ∀ res fin, LastM b V res fin → leastM b res ≠ 3
  | none => ∀ V, 1 ≤ V → V ≤ 9 → ∀ res fin, LastM b V res fin → leastM b res ≠ 3
def oN : Option Nat → V
  | none => .non
  | some n => nV n
end Nv
set_option Elab.async false
set_option linter.all false
set_option maxRecDepth 100000
namespace Nv
open PySem PySem.Spec PyProof.Rows L2
section
variable {P : Program} {w : World} {K : PySem.W.Frag} {mg : Str → Option Value} {base : Heap}
/-! ### forks, reach -/
theorem forTo {n m : Nat} (h : n = m) : ((n : Int)).toNat = m := by rw [Int.toNat_natCast, h]
theorem sc_fork_states : FnScope ["book", "state"] ["book"] (defScope s_fork_states) := ⟨rfl, rfl, rfl, by decide +kernel, rfl, by decide +kernel, by decide +kernel⟩
def sp_fork_states (K : PySem.W.Frag) : Sp := fun vs H Q _ => ∃ (v : V) (b : Book), vs = [v] ∧ BkV K H v b ∧ b.length ≤ 8 ∧ ∀ (t : Addr) (H' : Hp), SqT K H' t ((forksM b).map nV) → Ext [] H H' → Q (.ref t) H'
theorem ok_fork_states (T : Tx K mg) : FnOk P w K mg base CX0 1 T.fork_states.f T.fork_states.fd ["book"] (sp_fork_states K) := by
  refine T.fork_states.F.ok sc_fork_states (fun vs H Q E h => ?_) (fun cdv A outer s H vs Q E hr h => ?_)
  · obtain ⟨v, b, rfl, _⟩ := h; rfl
  · obtain ⟨v, b, rfl, ⟨a, ls, rfl, ha, hls⟩, h8, q⟩ := h
    have llen := Paired.len hls
    refine ⟨_, (pss_one (ps_ret (pe_callTy call_tupZ (by rfl) T.n_tuple (by decide +kernel) (pa_cons (pe_lc (own := [("state", 1)]) rfl sc_fork_states.nd (pi_range1 (by rfl) T.n_range (pa_cons (pe_callB call_len_seq (by rfl) T.n_len PySem.boot_len (pa_cons (pv 0) pa_nil)) pa_nil)) (blkOk_by (own := [("state", 1)]) (N := ["book", "state"]) (sc := defScope s_fork_states) (by decide +kernel)) (fun _ _ _ _ _ => (pg_name (i := 1) sc_fork_states.nd rfl (.inl rfl))) (fun _ _ _ _ _ => pts_one (pt_mid (pt_cmpR op_gt (pe_callB (call_len_seqK K) (by rfl) T.n_len PySem.boot_len (pa_cons (pe_ix (ix_tupK K) (pv 0) (pv 1) (fun _ _ => rfl)) pa_nil)) pe_int (nomark _)))) (fun _ _ _ _ _ => (pv 1))) pa_nil)))), ?_⟩
    refine ⟨_, rfl, a, _, rfl, .inr ha, _, rfl, by omega, by omega, fun D hD => ?_⟩
    rw [forTo llen]
    refine filt_range (fun s => decide (1 < (mvs b s).length)) hD (by omega) (fun v => rfl) (fun v => rfl) (fun k H' hk e => ?_) (fun H' h e => ?_)
    · obtain ⟨u, hu, c, ps, rfl, hc, hps⟩ := Paired.get hls (mvs_lt hk)
      have plen := Paired.len hps
      refine ⟨_, rfl, _, rfl, a, _, _, _, rfl, rfl, e.tup Lsts.nil ha, atI_nat hu, c, _, rfl, .inr (e.tz Lsts.nil hc).sq, _, _, rfl, rfl, _, rfl, ?_, .refl⟩
      rw [List.length_map, plen]
      refine decide_eq_decide.mpr ?_
      omega
    · refine ⟨D, _, rfl, .of h, fun t H2 ht hH => ?_⟩
      obtain ⟨o, _, rfl⟩ := hH
      exact q t _ (.inl (.inr ⟨o, upd_same⟩)) (e.put2 ht)
theorem sc_reach : FnScope ["book", "state", "many", "found", "_", "ahead", "at", "message", "to"] ["book", "state", "many"] (defScope s_reach) := ⟨rfl, rfl, rfl, by decide +kernel, rfl, by decide +kernel, by decide +kernel⟩
def sp_reach (K : PySem.W.Frag) : Sp := fun vs H Q _ => ∃ (v : V) (b : Book) (s m : Nat), vs = [v, .int s, .int m] ∧ BkV K H v b ∧ FormB b ∧ s < b.length ∧ ∀ (t : Addr) (H' : Hp), SqT K H' t ((reachL b s m).map nV) → Ext [] H H' → Q (.ref t) H'
theorem ok_reach (T : Tx K mg) : FnOk P w K mg base CX0 1 T.reach.f T.reach.fd ["book", "state", "many"] (sp_reach K) := by
  refine T.reach.F.ok sc_reach (fun vs H Q E h => ?_) (fun cdv A outer s H vs Q E hr h => ?_)
  · obtain ⟨v, b, s, m, rfl, _⟩ := h; rfl
  · obtain ⟨v, b, st, m, rfl, ⟨a, ls, rfl, ha, hls⟩, fb, hs, q⟩ := h
    have llen := Paired.len hls
    have h8 := fb.eight
    refine ⟨_, (pss_cons (ps_set (i := 3) sc_reach.nd rfl (.inl rfl) (pe_lst (pa_cons (pv 1) pa_nil)))
      (pss_cons (ps_for PassesOwn.never rfl (pi_range1 (by rfl) T.n_range (pa_cons (pe_callB (call_min2 rfl) (by rfl) T.n_min (by decide +kernel) (pa_cons (pv 2) (pa_cons (pe_callB call_len_seq (by rfl) T.n_len PySem.boot_len (pa_cons (pv 0) pa_nil)) pa_nil))) pa_nil)) (pg_name (i := 4) sc_reach.nd rfl (.inl rfl))
        (pss_cons (ps_setLc2 (i := 5) (own := [("at", 6), ("message", 7), ("to", 8)]) (vs1 := [7, 8]) rfl sc_reach.nd rfl rfl (sw_true rfl rfl rfl (by decide +kernel)) (pi_list (pv 3)) (blkOk_by (own := [("at", 6), ("message", 7), ("to", 8)]) (N := ["book", "state", "many", "found", "_", "ahead", "at", "message", "to"]) (sc := defScope s_reach) (by decide +kernel)) (by decide) (fun _ _ _ _ _ => (pg_name (i := 6) sc_reach.nd rfl (.inl rfl))) (fun _ _ _ _ _ => pts_nil) (fun _ _ _ _ _ => (pi_tupK K (pe_ix (ix_tupK K) (pv 0) (pv 6) (fun _ _ => rfl)))) (fun _ _ _ _ _ => (pg_tupK (n := 2) K rfl (pgs_cons (pg_name (i := 7) sc_reach.nd rfl (.inl rfl)) (pgs_cons (pg_name (i := 8) sc_reach.nd rfl (.inl rfl)) pgs_nil)))) (fun _ _ _ _ _ => pts_nil) (fun _ _ _ _ _ => (pv 8)))
        (pss_one (ps_set (i := 3) sc_reach.nd rfl (.inl rfl) (pe_callB (cr_sortedSet rfl) (by rfl) T.n_sorted (by decide +kernel) (pa_cons (pe_callTy (cr_setI rfl) (by rfl) T.n_set (by decide +kernel) (pa_cons (pe_op op_cat (pv 3) (pv 5)) pa_nil)) pa_nil))))))
      (pss_one (ps_ret (pe_callTy call_tupZ (by rfl) T.n_tuple (by decide +kernel) (pa_cons (pv 3) pa_nil)))))), ?_⟩
    -- found = [state]
    refine ⟨_, rfl, (by show 1 ≤ sizeLine; decide), fun f0 hf0 => ?_⟩
    -- the loop
    have hmin : (if ((ls.length : Int)) < (m : Int) then (ls.length : Int) else (m : Int)) = ((min m b.length : Nat) : Int) := by
      rw [llen]
      by_cases h : (b.length : Int) < (m : Int)
      · rw [if_pos h]; omega
      · rw [if_neg h]; omega
    refine ⟨_, rfl, _, rfl, a, _, rfl, .inr (Ext.tup (Ext.new (L := []) hf0) Lsts.nil ha), _, _, rfl, _, rfl, ?_⟩
    rw [hmin]
    refine ⟨by omega, by omega, ?_⟩
    rw [Int.toNat_natCast]
    refine for_range (lo := 0) (n := _) (fun i σ H' => ∃ (f : Addr) (y4 y5 : Option V), σ = [some (.ref a), some (.int st), some (.int m), some (.ref f), y4, y5, none, none, none] ∧ H' f = some (.lst ((wiL b st i).map nV)) ∧ Ext [] H H') ⟨f0, _, _, rfl, upd_same, .new hf0⟩ ?_ ?_
    · rintro i σ H1 hi ⟨f, y4, y5, rfl, hF, e1⟩
      -- ahead
      refine ⟨_, rfl, f, rfl, ⟨_, .of hF⟩, fun D hD => ?_⟩
      have fD : f ≠ D := ne_of_none hF hD
      have wlt := wiL_lt hs i
      have wlen := wiL_len hs i
      refine lc2_list (K := K) (a := f) (xs := (wiL b st i).map nV) (fun j H' => ∃ ah : List Nat, H' D = some (.lst (ah.map nV)) ∧ ah.length ≤ 5 * j ∧ (∀ k, k ∈ ah ↔ ∃ x ∈ (wiL b st i).take j, ∃ p ∈ mvs b x, p.2 = k) ∧ Ext [] H1 H') ⟨[], upd_same, Nat.zero_le _, fun k => by simp, .new hD⟩ (fun j H' _ ⟨_, _, _, _, e⟩ => .of (e.at hF (by simp))) ?_ ?_
      · rintro j v H' hv ⟨ah, hA, al, am, e2⟩
        obtain ⟨x, hx, rfl⟩ := map_at hv
        have hxb : x < b.length := wlt x (List.mem_of_getElem? hx)
        obtain ⟨u, hu, c, ps, rfl, hc, hps⟩ := Paired.get hls (mvs_lt hxb)
        have plen := Paired.len hps
        have five := (fb.ok hxb).few
        have e3 := e1.trans e2
        refine ⟨rfl, yes ?_⟩
        refine ⟨_, rfl, _, rfl, a, _, _, _, rfl, rfl, e3.tup Lsts.nil ha, atI_nat hu, c, rfl, ⟨_, (e3.tz Lsts.nil hc).sq⟩, ?_⟩
        refine lc2_tup (K := K) (c := c) (ys := ps.map V.ref) (fun k H2 => ∃ ah2 : List Nat, H2 D = some (.lst (ah2.map nV)) ∧ ah2.length ≤ 5 * j + k ∧ (∀ z, z ∈ ah2 ↔ z ∈ ah ∨ ∃ p ∈ (mvs b x).take k, p.2 = z) ∧ Ext [] H1 H2) ⟨ah, hA, al, fun z => by simp, e2⟩ (fun k H2 _ ⟨_, _, _, _, e⟩ => ((e1.trans e).tz Lsts.nil hc).sq) ?_ ?_
        · rintro k v H2 hv2 ⟨ah2, hA2, al2, am2, e5⟩
          obtain ⟨g, hg, rfl⟩ := map_at hv2
          obtain ⟨p, hp, hcp⟩ := Paired.get' hps hg
          have hk5 : k < 5 := by
            have := (List.getElem?_eq_some_iff.mp hp).1
            omega
          have hjl : j < b.length := by
            have := (List.getElem?_eq_some_iff.mp hx).1
            omega
          refine ⟨g, _, rfl, hcp.ext0 (e1.trans e5), rfl, _, _, rfl, _, _, rfl, rfl, rfl, yes ?_⟩
          refine ⟨_, rfl, _, hA2, by rw [List.length_map]; exact small1000 (by omega), ah2 ++ [p.2], by rw [upd_same, List.map_append]; rfl, by rw [List.length_append]; show ah2.length + 1 ≤ _; omega, fun z => ?_, e5.put hD⟩
          · rw [List.mem_append, am2, List.take_add_one, hp]
            constructor
            · rintro ((h | ⟨y, hy, e⟩) | h)
              · exact .inl h
              · exact .inr ⟨y, List.mem_append_left _ hy, e⟩
              · exact .inr ⟨p, List.mem_append_right _ (by simp), (List.mem_singleton.mp h).symm⟩
            · rintro (h | ⟨y, hy, e⟩)
              · exact .inl (.inl h)
              · rcases List.mem_append.mp hy with hy | hy
                · exact .inl (.inr ⟨y, hy, e⟩)
                · have : y = p := by simpa using hy
                  subst this
                  exact .inr (List.mem_singleton.mpr e.symm)
        · rintro H2 ⟨ah2, hA2, al2, am2, e5⟩
          rw [List.length_map, plen] at al2 am2
          refine ⟨ah2, hA2, by omega, fun k => ?_, e5⟩
          rw [am2, am, List.take_of_length_le (Nat.le_refl _), List.take_add_one, hx]
          constructor
          · rintro (⟨y, hy, r⟩ | ⟨p, hp, e⟩)
            · exact ⟨y, List.mem_append_left _ hy, r⟩
            · exact ⟨x, List.mem_append_right _ (by simp), p, hp, e⟩
          · rintro ⟨y, hy, p, hp, e⟩
            rcases List.mem_append.mp hy with hy | hy
            · exact .inl ⟨y, hy, p, hp, e⟩
            · have : y = x := by simpa using hy
              subst this
              exact .inr ⟨p, hp, e⟩
      · rintro H' ⟨ah, hA, al, am, e2⟩
        rw [List.length_map] at al am
        rw [List.take_length] at am
        have hF2 := e2.at hF (by simp)
        have e3 := e1.trans e2
        -- found = sorted(set(found + ahead))
        refine ⟨_, rfl, _, rfl, f, D, _, _, rfl, rfl, hF2, hA, ?_, fun c hc => ?_⟩
        · rw [List.length_map, List.length_map]
          exact Nat.le_of_lt (small1000 (by omega))
        have e4 : Ext [] H' (upd H' c (.lst ((wiL b st i).map nV ++ ah.map nV))) := .new hc
        refine ⟨c, (wiL b st i ++ ah).map (fun n : Nat => (n : Int)), rfl, .of ?_, ?_, fun p z hp hz => ?_⟩
        · rw [upd_same, ← List.map_append, map_nV_int]
        · rw [List.length_map, List.length_append]
          omega
        have e5 := e4.trans (Ext.new (L := []) (o := SetO w p (fun j => decide (j ∈ (wiL b st i ++ ah).map (fun n : Nat => (n : Int)))) z) hp)
        refine ⟨p, _, z, rfl, upd_same, ?_, fun ns t hns hmem hlen ht => ?_⟩
        · rw [List.length_map, List.length_append] at hz
          omega
        have nn : ∃ ms : List Nat, ns = ms.map (fun n : Nat => (n : Int)) := by
          refine ⟨ns.map Int.toNat, ?_⟩
          rw [List.map_map]
          conv => lhs; rw [← List.map_id ns]
          refine List.map_congr_left fun x hx => ?_
          have := (hmem x).mp hx
          have := of_decide_eq_true this
          obtain ⟨n, _, rfl⟩ := List.mem_map.mp this
          rfl
        obtain ⟨ms, rfl⟩ := nn
        have ems : ms = stepL b (wiL b st i) := by
          refine step_eq fb wlt am ?_ fun k => ?_
          · rw [List.pairwise_map] at hns
            exact List.Pairwise.imp (fun h => by omega) hns
          · have h1 := hmem (k : Int)
            rw [decide_eq_true_eq, List.mem_map, List.mem_map] at h1
            constructor
            · intro hk
              obtain ⟨y, hy, e⟩ := h1.mp ⟨k, hk, rfl⟩
              have : y = k := by omega
              subst this
              exact List.mem_append.mp hy
            · intro hk
              obtain ⟨y, hy, e⟩ := h1.mpr ⟨k, List.mem_append.mpr hk, rfl⟩
              have : y = k := by omega
              subst this
              exact hy
        subst ems
        exact ⟨t, _, _, rfl, by rw [upd_same, ← map_nV_int]; rfl, (e3.trans e5).put2 ht⟩
    · rintro σ H' ⟨f, y4, y5, rfl, hF, e⟩
      refine ⟨_, rfl, f, _, rfl, .of hF, fun t H2 ht hH => ?_⟩
      obtain ⟨o, _, rfl⟩ := hH
      exact q t _ (.inl (.inr ⟨o, upd_same⟩)) (e.put2 ht)
end
end Nv
set_option Elab.async false
set_option linter.all false
set_option maxRecDepth 100000
namespace Nv
open PySem PySem.Spec PyProof.Rows L2
section
variable {P : Program} {w : World} {K : PySem.W.Frag} {mg : Str → Option Value} {base : Heap}
/-! ### ways that lead, ways back -/
theorem iteNS' {c A B : Prop} [Decidable c] (hc : ¬ c) (h : A) : if (!decide c) = true then A else B := by
  rw [decide_eq_false hc]
  exact iteT h
theorem rise_nd {s : State} (h : (s.map (·.1)).Pairwise (· < ·)) : (s.map fun q => ((kN q.1, V.int q.2) : Key × V)).map (·.1) |>.Nodup := by
  rw [List.map_map]
  have e : ((fun x : Key × V => x.1) ∘ fun q : Nat × Nat => ((kN q.1, V.int q.2) : Key × V)) = kN ∘ (·.1) := rfl
  rw [e, ← List.map_map]
  refine List.Pairwise.map kN (fun a b h2 h3 => ?_) h
  have : (a : Int) = (b : Int) := Sum.inl.inj h3
  omega
theorem sc_led_to : FnScope ["book", "state", "message", "many"] ["book", "state", "message", "many"] (defScope s_led_to) := ⟨rfl, rfl, rfl, by decide +kernel, rfl, by decide +kernel, by decide +kernel⟩
def sp_led_to (K : PySem.W.Frag) : Sp := fun vs H Q _ => ∃ (v : V) (b : Book) (s k : Nat) (p : Nat × Nat), vs = [v, .int s, .int p.1, .int k] ∧ BkV K H v b ∧ FormB b ∧ p ∈ mvs b s ∧ ∀ (t : Addr) (H' : Hp), SqT K H' t ((ledL b p.2 k).map nV) → Ext [] H H' → Q (.ref t) H'
theorem ok_led_to (T : Tx K mg) : FnOk P w K mg base CX0 2 T.led_to.f T.led_to.fd ["book", "state", "message", "many"] (sp_led_to K) := by
  refine T.led_to.F.ok sc_led_to (fun vs H Q E h => ?_) (fun cdv A outer s H vs Q E hr h => ?_)
  · obtain ⟨v, b, s, k, p, rfl, _⟩ := h; rfl
  · obtain ⟨v, b, st, k, p, rfl, hb, fb, hp, q⟩ := h
    obtain ⟨a, ls, rfl, ha, hls⟩ := id hb
    refine ⟨_, (pss_cons (ps_if (pt_cmpR op_eq (pv 3) pe_int (nomark _))
        (pss_one (ps_ret (pe_tup pa_nil)))
        pss_nil)
      (pss_one (ps_ret (pe_call (ok_reach T) (hr.mono (by decide)) (by rfl) T.reach.g T.reach.F.kp T.reach.b .nil pass0 (pa_cons (pv 0) (pa_cons (pe_dget (hu_of hr) (pe_callTy (call_dictT rfl) (by rfl) T.n_dict (by decide +kernel) (pa_cons (pe_ix ix_tup (pv 0) (pv 1) (fun _ _ => rfl)) pa_nil)) (pv 2) (fun _ _ => rfl)) (pa_cons (pe_op op_sub (pv 3) pe_int) pa_nil))))))), ?_⟩
    refine ⟨_, rfl, rfl, _, rfl, ?_⟩
    have e0 : decide (V.int (k : Int) = V.int 0) = decide (k = 0) := by
      rw [dec_int]
      refine decide_eq_decide.mpr ?_
      omega
    rw [e0]
    refine ite2 (fun z => ?_) (fun z => ?_)
    · have z := of_decide_eq_true z
      subst z
      exact ⟨Nat.zero_le _, fun t ht => q t _ (.of upd_same) (.new ht)⟩
    · have z : ¬ k = 0 := fun y => z (decide_eq_true y)
      have hs : st < b.length := by
        by_cases h : st < b.length
        · exact h
        · rw [mvs_out (by omega)] at hp
          cases hp
      obtain ⟨u, hu, c, ps, rfl, hc, hps⟩ := Paired.get hls (mvs_lt hs)
      have nd := rise_nd (fb.ok hs).rise
      have pk : Paired (fun p kv => SqT K H p [kV kv.1, kv.2]) ps ((mvs b st).map fun q => ((kN q.1, V.int q.2) : Key × V)) := by
        clear nd hu hc
        generalize mvs b st = m at hps
        clear hp
        induction hps with
        | nil => exact .nil
        | cons r _ ih => exact .cons r ih
      refine ⟨_, rfl, _, rfl, _, rfl, a, _, _, _, rfl, rfl, ha, atI_nat hu, c, ps, _, rfl, hc, pk, fun d hd => ?_⟩
      refine ⟨_, rfl, d, .int p.2, rfl, ?_, _, rfl, _, _, rfl, rfl, ?_⟩
      · rw [mergeK_nd _ [] (by simpa using nd)]
        have hm : (kN p.1, V.int p.2) ∈ (mvs b st).map (fun q => ((kN q.1, V.int q.2) : Key × V)) := List.mem_map.mpr ⟨p, hp, rfl⟩
        have := DGet.k (k := kN p.1) (upd_same (H := H) (a := d) (o := .dK ([] ++ (mvs b st).map fun q => ((kN q.1, V.int q.2) : Key × V))))
        rw [List.nil_append, valV_nd nd hm] at this
        exact this
      · have e1 : Ext [] H (upd H d (.dK (mergeK [] ((mvs b st).map fun q => ((kN q.1, V.int q.2) : Key × V))))) := .new hd
        refine ⟨.ref a, b, p.2, k - 1, ?_, hb.ext0 e1, fb, fb.to hp, fun t H' ht e => q t H' ?_ (e1.trans e)⟩
        · have : ((k : Int)) - 1 = ((k - 1 : Nat) : Int) := by omega
          exact congrArg (fun z : Int => [V.ref a, V.int p.2, V.int z]) this
        · unfold ledL
          rw [if_neg z]
          exact ht
theorem sc_ways_back : FnScope ["book", "state", "message", "to"] ["book", "state"] (defScope s_ways_back) := ⟨rfl, rfl, rfl, by decide +kernel, rfl, by decide +kernel, by decide +kernel⟩
def sp_ways_back (K : PySem.W.Frag) : Sp := fun vs H Q _ => ∃ (v : V) (b : Book) (s : Nat), vs = [v, .int s] ∧ BkV K H v b ∧ FormB b ∧ s < b.length ∧ ∀ H', Ext [] H H' → Q (.int (waysM b s)) H'
theorem ok_ways_back (T : Tx K mg) : FnOk P w K mg base CX0 2 T.ways_back.f T.ways_back.fd ["book", "state"] (sp_ways_back K) := by
  refine T.ways_back.F.ok sc_ways_back (fun vs H Q E h => ?_) (fun cdv A outer s H vs Q E hr h => ?_)
  · obtain ⟨v, b, s, rfl, _⟩ := h; rfl
  · obtain ⟨v, b, st, rfl, hb, fb, hs, q⟩ := h
    obtain ⟨a, ls, rfl, ha, hls⟩ := id hb
    have llen := Paired.len hls
    obtain ⟨u, hu, c, ps, rfl, hc, hps⟩ := Paired.get hls (mvs_lt hs)
    have plen := Paired.len hps
    have five := (fb.ok hs).few
    refine ⟨_, (pss_one (ps_ret (pe_callB call_len_seq (by rfl) T.n_len PySem.boot_len (pa_cons (pe_lc (own := [("message", 2), ("to", 3)]) rfl sc_ways_back.nd (pi_tup (pe_ix ix_tup (pv 0) (pv 1) (fun _ _ => rfl))) (blkOk_by (own := [("message", 2), ("to", 3)]) (N := ["book", "state", "message", "to"]) (sc := defScope s_ways_back) (by decide +kernel)) (fun _ _ _ _ _ => (pg_tupK (n := 2) K rfl (pgs_cons (pg_name (i := 2) sc_ways_back.nd rfl (.inl rfl)) (pgs_cons (pg_name (i := 3) sc_ways_back.nd rfl (.inl rfl)) pgs_nil)))) (fun _ _ _ _ _ => pts_one (pt_mid (pt_cmpR (op_in_seqK K) (pv 1) (pe_call (ok_reach T) (hr.mono (by decide)) (by rfl) T.reach.g T.reach.F.kp T.reach.b .nil pass0 (pa_cons (pv 0) (pa_cons (pv 3) (pa_cons (pe_callB (call_len_seqK K) (by rfl) T.n_len PySem.boot_len (pa_cons (pv 0) pa_nil)) pa_nil)))) (by rfl)))) (fun _ _ _ _ _ => (pv 2))) pa_nil)))), ?_⟩
    refine ⟨_, rfl, _, rfl, a, _, _, _, rfl, rfl, ha, atI_nat hu, c, rfl, ⟨_, hc.sq⟩, fun D hD => ?_⟩
    refine lc_tup (K := K) (a := c) (xs := ps.map V.ref) (fun i H' => ∃ xs : List V, H' D = some (.lst xs) ∧ xs.length = (((mvs b st).take i).filter fun p => decide (st ∈ reachL b p.2 b.length)).length ∧ Ext [] H H') ⟨[], upd_same, rfl, .new hD⟩ (fun i H' _ ⟨_, _, _, e⟩ => (e.tz Lsts.nil hc).sq) ?_ ?_
    · rintro i v H' hv ⟨xs, hX, hxl, e⟩
      obtain ⟨g, hg, rfl⟩ := map_at hv
      obtain ⟨p, hp, hcp⟩ := Paired.get' hps hg
      have hm := List.mem_of_getElem? hp
      refine ⟨g, _, rfl, hcp.ext0 e, rfl, _, _, rfl, _, _, rfl, rfl, rfl, ?_⟩
      refine ⟨fun x H3 => x = decide (st ∈ reachL b p.2 b.length) ∧ Ext [] H' H3, ?_, ?_⟩
      · refine ⟨_, rfl, _, rfl, _, rfl, _, rfl, a, _, rfl, .inr (e.tup Lsts.nil ha), .ref a, b, p.2, b.length, by rw [llen]; rfl, hb.ext0 e, fb, fb.to hm, fun t H3 ht e3 => ?_⟩
        exact ⟨t, _, rfl, .inr ht, rfl, flat_nV _, _, rfl, inV_nV st _, e3⟩
      · rintro x H3 ⟨rfl, e3⟩
        have h3 := e3.at hX (by simp)
        refine ifB (fun hf => ?_) (fun hf => ?_)
        · refine ⟨_, rfl, _, h3, ?_, xs ++ [.int p.1], upd_same, ?_, (e.trans e3).put hD⟩
          · rw [hxl]
            refine small1000 (Nat.le_trans (List.length_filter_le _ _) ?_)
            rw [List.length_take]
            omega
          · rw [List.length_append, hxl, filter_take _ hp, hf]
            simp
        · refine ⟨xs, h3, ?_, e.trans e3⟩
          rw [hxl, filter_take _ hp, hf]
          simp
    · rintro H' ⟨xs, hX, hxl, e⟩
      rw [List.length_map, plen, List.take_length] at hxl
      refine ⟨D, xs, rfl, .inl (.of hX), ?_⟩
      have := q H' e
      unfold waysM at this
      rw [← hxl] at this
      exact this
theorem sc_leading_to : FnScope ["book", "state", "window", "goals", "out", "message", "to", "ends", "end"] ["book", "state", "window", "goals"] (defScope s_leading_to) := ⟨rfl, rfl, rfl, by decide +kernel, rfl, by decide +kernel, by decide +kernel⟩
def sp_leading_to (K : PySem.W.Frag) : Sp := fun vs H Q _ => ∃ (v : V) (b : Book) (s W : Nat) (g : Addr) (goals : List Nat), vs = [v, .int s, .int W, .ref g] ∧ BkV K H v b ∧ FormB b ∧ s < b.length ∧ 1 ≤ W ∧ SqL K H g (goals.map nV) ∧ ∀ (t : Addr) (H' : Hp), H' t = some (.lst ((leadM b W s goals).map nV)) → Ext [] H H' → Q (.ref t) H'
theorem ok_leading_to (T : Tx K mg) : FnOk P w K mg base CX0 3 T.leading_to.f T.leading_to.fd ["book", "state", "window", "goals"] (sp_leading_to K) := by
  refine T.leading_to.F.ok sc_leading_to (fun vs H Q E h => ?_) (fun cdv A outer s H vs Q E hr h => ?_)
  · obtain ⟨v, b, s, W, g, goals, rfl, _⟩ := h; rfl
  · obtain ⟨v, b, st, W, g, goals, rfl, hb, fb, hs, hW, hg, q⟩ := h
    obtain ⟨a, ls, rfl, ha, hls⟩ := id hb
    obtain ⟨u, hu, c, ps, rfl, hc, hps⟩ := Paired.get hls (mvs_lt hs)
    have plen := Paired.len hps
    have five := (fb.ok hs).few
    have h8 := fb.eight
    refine ⟨_, (pss_cons (ps_set (i := 4) sc_leading_to.nd rfl (.inl rfl) (pe_lst pa_nil))
      (pss_cons (ps_for PassesOwn.never rfl (pi_tup (pe_ix ix_tup (pv 0) (pv 1) (fun _ _ => rfl))) (pg_tup rfl (pgs_cons (pg_name (i := 5) sc_leading_to.nd rfl (.inl rfl)) (pgs_cons (pg_name (i := 6) sc_leading_to.nd rfl (.inl rfl)) pgs_nil)))
        (pss_cons (ps_set (i := 7) sc_leading_to.nd rfl (.inl rfl) (pe_call (ok_led_to T) (hr.mono (by decide)) (by rfl) T.led_to.g T.led_to.F.kp T.led_to.b .nil pass0 (pa_cons (pv 0) (pa_cons (pv 1) (pa_cons (pv 5) (pa_cons (pe_op op_sub (pv 2) pe_int) pa_nil))))))
        (pss_one (ps_if (pt_val (pe_callB (cr_any rfl) (by rfl) T.n_any (by decide +kernel) (pa_cons (pe_lc (own := [("end", 8)]) rfl sc_leading_to.nd (pi_tup (pv 7)) (blkOk_by (own := [("end", 8)]) (N := ["book", "state", "window", "goals", "out", "message", "to", "ends", "end"]) (sc := defScope s_leading_to) (by decide +kernel)) (fun _ _ _ _ _ => (pg_name (i := 8) sc_leading_to.nd rfl (.inl rfl))) (fun _ _ _ _ _ => pts_nil) (fun _ _ _ _ _ => (pe_cmpR (op_in_seqK K) (pv 8) (pv 3) (by rfl)))) pa_nil)))
          (pss_one (ps_expr (pe_bm PySem.F.plainAttrs_list PySem.F.slot_list_append PySem.F.type_list_append mt_append (pv 4) (pa_cons (pv 5) pa_nil))))
          pss_nil))))
      (pss_one (ps_ret (pv 4))))), ?_⟩
    refine ⟨Nat.zero_le _, fun o ho => ?_⟩
    have e0 : Ext [] H (upd H o (.lst [])) := .new ho
    refine ⟨_, rfl, _, rfl, a, _, _, _, rfl, rfl, e0.tup Lsts.nil ha, atI_nat hu, c, rfl, ⟨_, (e0.tz Lsts.nil hc).sq⟩, ?_⟩
    refine for_tup (K := K) (a := c) (xs := ps.map V.ref) (fun i σ H' => ∃ y5 y6 y7 : Option V, σ = [some (.ref a), some (.int st), some (.int W), some (.ref g), some (.ref o), y5, y6, y7, none] ∧ H' o = some (.lst (((((mvs b st).take i).filter fun p => (ledL b p.2 (W - 1)).any fun k => decide (k ∈ goals)).map (·.1)).map nV)) ∧ Ext [] H H')
      ⟨_, _, _, rfl, upd_same, e0⟩ (fun i σ H' _ ⟨_, _, _, _, _, e⟩ => (e.tz Lsts.nil hc).sq) ?_ ?_
    · rintro i v σ H' hv ⟨y5, y6, y7, rfl, hO, e⟩
      obtain ⟨gg, hgg, rfl⟩ := map_at hv
      obtain ⟨p, hp, hcp⟩ := Paired.get' hps hgg
      have hm := List.mem_of_getElem? hp
      refine ⟨gg, _, rfl, hcp.ext0 e, rfl, _, _, rfl, _, _, rfl, rfl, ?_⟩
      refine ⟨_, rfl, _, rfl, _, rfl, _, rfl, _, _, rfl, rfl, .ref a, b, st, W - 1, p, ?_, hb.ext0 e, fb, hm, fun t H1 ht e1 => ?_⟩
      · have : ((W : Int)) - 1 = ((W - 1 : Nat) : Int) := by omega
        exact congrArg (fun z : Int => [V.ref a, V.int st, V.int p.1, V.int z]) this
      -- any([..])
      have llt := ledL_lt (m := W - 1) (fb.to hm)
      refine ⟨_, rfl, t, rfl, ⟨_, ht⟩, fun D hD => ?_⟩
      have hO1 := e1.at hO (by simp)
      refine lc_tup (K := K) (a := t) (xs := (ledL b p.2 (W - 1)).map nV) (fun j H2 => H2 D = some (.lst ((((ledL b p.2 (W - 1)).take j).map fun k => decide (k ∈ goals)).map V.bl)) ∧ Ext [] H1 H2) ⟨upd_same, .new hD⟩ (fun j H2 _ ⟨_, e⟩ => e.tup Lsts.nil ht) ?_ ?_
      · rintro j v H2 hv ⟨hD2, e2⟩
        obtain ⟨k, hk, rfl⟩ := map_at hv
        refine ⟨rfl, yes ?_⟩
        refine ⟨_, rfl, _, rfl, g, _, rfl, .inl (((e.trans e1).trans e2).frz (by simp) hg), rfl, flat_nV _, _, hD2, ?_, ?_, e2.put hD⟩
        · rw [List.length_map, List.length_map, List.length_take]
          have l1 : (ledL b p.2 (W - 1)).length ≤ b.length := by
            unfold ledL
            split
            · exact Nat.zero_le _
            · exact wiL_len (fb.to hm) _
          exact small1000 (by omega)
        · rw [upd_same, List.take_add_one, hk, List.map_append, List.map_append]
          show _ = some (HO.lst (_ ++ [V.bl (decide (k ∈ goals))]))
          rw [← inV_nV]
          rfl
      · rintro H2 ⟨hD2, e2⟩
        rw [List.length_map, List.take_length] at hD2
        have hO2 := e2.at hO1 (by simp)
        have ee := (e.trans e1).trans e2
        refine ⟨D, _, rfl, .of hD2, _, rfl, ?_⟩
        have ean : (((ledL b p.2 (W - 1)).map fun k => decide (k ∈ goals)).any id) = (ledL b p.2 (W - 1)).any fun k => decide (k ∈ goals) := by rw [List.any_map]; rfl
        rw [ean]
        have oD : o ≠ D := ne_of_none hO1 hD
        refine ifB (fun hf => ?_) (fun hf => ?_)
        · refine ⟨_, rfl, .inl ⟨rfl, _, .of hO2⟩, _, rfl, o, _, _, rfl, rfl, hO2, ?_, _, _, _, rfl, ?_, ee.put ho⟩
          · rw [List.length_map, List.length_map]
            refine small1000 (Nat.le_trans (List.length_filter_le _ _) ?_)
            rw [List.length_take]
            omega
          · rw [upd_same, filter_take _ hp, hf]
            simp
        · refine ⟨_, _, _, rfl, ?_, ee⟩
          rw [hO2, filter_take _ hp, hf]
          simp
    · rintro σ H' ⟨y5, y6, y7, rfl, hO, e⟩
      rw [List.length_map, plen, List.take_length] at hO
      exact ⟨_, rfl, q o H' hO e⟩
theorem sc_made_window : FnScope ["thing"] ["thing"] (defScope s_made_window) := ⟨rfl, rfl, rfl, by decide +kernel, rfl, by decide +kernel, by decide +kernel⟩
def sp_made_window : Sp := fun vs H Q _ => ∃ W : Nat, vs = [.int W] ∧ 1 ≤ W ∧ Q (.int W) H
theorem ok_made_window (T : Tx K mg) : FnOk P w K mg base CX0 2 T.made_window.f T.made_window.fd ["thing"] sp_made_window := by
  refine T.made_window.F.ok sc_made_window (fun vs H Q E h => ?_) (fun cdv A outer s H vs Q E hr h => ?_)
  · obtain ⟨W, rfl, _⟩ := h; rfl
  · obtain ⟨W, rfl, hW, q⟩ := h
    refine ⟨_, (pss_cons (ps_if (PW.pt (pw_and (pt_cmpR op_notN (pv 0) pe_non (nomark _)) (pw_and1 (PW.pt (pw_or (pt_not (pt_val (pe_call (ok_whole T) (hr.mono (by decide)) (by rfl) T.whole.g T.whole.F.kp T.whole.b .nil pass0 (pa_cons (pv 0) pa_nil)))) (pw_or1 (pt_cmpR op_lt (pv 0) pe_int (nomark _))))))))
        (pss_one ps_never)
        pss_nil)
      (pss_one (ps_ret (pv 0)))), ?_⟩
    refine ⟨_, rfl, rfl, _, rfl, iteNS' (by intro z; cases z) ?_⟩
    refine ⟨_, rfl, _, rfl, _, rfl, notF rfl ⟨_, rfl, _, _, rfl, rfl, _, rfl, ?_⟩⟩
    rw [decide_eq_false (by omega)]
    exact iteF ⟨_, rfl, q⟩
end
end Nv
set_option Elab.async false
set_option linter.all false
set_option maxRecDepth 100000
namespace Nv
open PySem PySem.Spec PyProof.Rows L2
section
variable {P : Program} {w : World} {K : PySem.W.Frag} {mg : Str → Option Value} {base : Heap}
/-! ### ranks, lasting forks, the least number -/
def oV : Option Int → V
  | none => .non
  | some i => .int i
theorem sc_ranks_for : FnScope ["book", "window", "rank_of", "standing", "turn", "falling", "fork"] ["book", "window"] (defScope s_ranks_for) := ⟨rfl, rfl, rfl, by decide +kernel, rfl, by decide +kernel, by decide +kernel⟩
def sp_ranks_for (K : PySem.W.Frag) : Sp := fun vs H Q _ => ∃ (v : V) (b : Book) (W : Nat), vs = [v, .int W] ∧ BkV K H v b ∧ FormB b ∧ 1 ≤ W ∧ ∀ (res : List (Option Int)) (fin : List Nat) (t : Addr) (H' : Hp), LastM b W res fin → SqT K H' t (res.map oV) → Ext [] H H' → Q (.ref t) H'
theorem ok_ranks_for (T : Tx K mg) : FnOk P w K mg base CX0 4 T.ranks_for.f T.ranks_for.fd ["book", "window"] (sp_ranks_for K) := by
  refine T.ranks_for.F.ok sc_ranks_for (fun vs H Q E h => ?_) (fun cdv A outer s H vs Q E hr h => ?_)
  · obtain ⟨v, b, W, rfl, _⟩ := h; rfl
  · obtain ⟨v, b, W, rfl, hb, fb, hW, q⟩ := h
    obtain ⟨a, ls, rfl, ha, hls⟩ := id hb
    have llen := Paired.len hls
    have h8 := fb.eight
    refine ⟨_, (pss_cons (ps_set (i := 2) sc_ranks_for.nd rfl (.inl rfl) (pe_op op_rep (pe_lst (pa_cons pe_non pa_nil)) (pe_callB call_len_seq (by rfl) T.n_len PySem.boot_len (pa_cons (pv 0) pa_nil))))
      (pss_cons (ps_set (i := 3) sc_ranks_for.nd rfl (.inr rfl) (pe_callTy call_list_of (by rfl) T.n_list (by decide +kernel) (pa_cons (pe_call (ok_fork_states T) (hr.mono (by decide)) (by rfl) T.fork_states.g T.fork_states.F.kp T.fork_states.b .nil pass0 (pa_cons (pv 0) pa_nil)) pa_nil)))
      (pss_cons (ps_set (i := 4) sc_ranks_for.nd rfl (.inl rfl) pe_int)
      (pss_cons (ps_while PassesOwn.never (pt_val pe_bl)
        (pss_cons (ps_set (i := 5) sc_ranks_for.nd rfl (.inr rfl) (pe_lc (own := [("fork", 6)]) rfl sc_ranks_for.nd (pi_list (pv 3)) (blkOk_by (own := [("fork", 6)]) (N := ["book", "window", "rank_of", "standing", "turn", "falling", "fork"]) (sc := defScope s_ranks_for) (by decide +kernel)) (fun _ _ _ _ _ => (pg_name (i := 6) sc_ranks_for.nd rfl (.inl rfl))) (fun _ _ _ _ _ => pts_one (pt_mid (pt_cmpR op_lt (pe_callB (call_len_seqK K) (by rfl) T.n_len PySem.boot_len (pa_cons (pe_call (ok_leading_to T) (hr.mono (by decide)) (by rfl) T.leading_to.g T.leading_to.F.kp T.leading_to.b .nil pass0 (pa_cons (pv 0) (pa_cons (pv 6) (pa_cons (pv 1) (pa_cons (pv 3) pa_nil))))) pa_nil)) pe_int (nomark _)))) (fun _ _ _ _ _ => (pv 6))))
        (pss_cons (ps_if (pt_not (pt_truth (pv 5) (by intro _; rfl)))
          (pss_one ps_break)
          pss_nil)
        (pss_cons (ps_for PassesOwn.never rfl (pi_list (pv 5)) (pg_name (i := 6) sc_ranks_for.nd rfl (.inl rfl))
          (pss_one (ps_asg (pv 4) (pg_sub (pv 2) (pv 6) set_list))))
        (pss_cons (ps_set (i := 3) sc_ranks_for.nd rfl (.inr rfl) (pe_lc (own := [("fork", 6)]) rfl sc_ranks_for.nd (pi_list (pv 3)) (blkOk_by (own := [("fork", 6)]) (N := ["book", "window", "rank_of", "standing", "turn", "falling", "fork"]) (sc := defScope s_ranks_for) (by decide +kernel)) (fun _ _ _ _ _ => (pg_name (i := 6) sc_ranks_for.nd rfl (.inl rfl))) (fun _ _ _ _ _ => pts_one (pt_mid (pt_cmpR (op_notIn_seqK K) (pv 6) (pv 5) (by rfl)))) (fun _ _ _ _ _ => (pv 6))))
        (pss_one (ps_aug (i := 4) sc_ranks_for.nd rfl (.inl rfl) pe_int ip_add)))))))
      (pss_cons (ps_for PassesOwn.never rfl (pi_list (pv 3)) (pg_name (i := 6) sc_ranks_for.nd rfl (.inl rfl))
        (pss_one (ps_asg (pe_un un_neg pe_int) (pg_sub (pv 2) (pv 6) set_list))))
      (pss_one (ps_ret (pe_callTy call_tupZ (by rfl) T.n_tuple (by decide +kernel) (pa_cons (pv 2) pa_nil))))))))), ?_⟩
    -- rank_of = [None] * len(book)
    refine ⟨(by show 1 ≤ sizeLine; decide), fun x hx => ?_⟩
    have e0 : Ext [] H (upd H x (.lst [.non])) := .new hx
    refine ⟨_, rfl, a, _, rfl, .inr (e0.tup Lsts.nil ha), x, _, _, rfl, rfl, upd_same, by omega, by omega, ?_, fun ro hro => ?_⟩
    · rw [forTo llen]
      exact Nat.le_of_lt (small1000 (by show 1 * b.length ≤ 1000; omega))
    rw [forTo llen]
    have e1 := e0.trans (Ext.new (L := []) (o := .lst (List.replicate b.length [V.non]).flatten) hro)
    have hro0 : H ro = none := e0.free hro
    have hr1 : upd (upd H x (.lst [.non])) ro (.lst (List.replicate b.length [V.non]).flatten) ro = some (.lst ((List.replicate b.length (none : Option Int)).map oV)) := by
      rw [upd_same, List.map_replicate]
      congr 2
      clear hro e1 llen h8 fb hb q hls ha
      induction b.length with
      | zero => rfl
      | succ n ih => rw [List.replicate_succ, List.flatten_cons, ih, List.replicate_succ]; rfl
    generalize upd (upd H x (.lst [.non])) ro (.lst (List.replicate b.length [V.non]).flatten) = H1 at *
    -- standing = list(fork_states(book))
    refine ⟨_, rfl, .ref a, b, rfl, hb.ext0 e1, h8, fun t H2 ht e2 => ?_⟩
    refine ⟨t, _, rfl, .inr ht, fun so hso => ?_⟩
    have e3 := (e1.trans e2).put2 (o := .lst ((forksM b).map nV)) hso
    have hr2 := e2.at hr1 (by simp)
    have hso0 : H so = none := (e1.trans e2).free hso
    have ros : ro ≠ so := ne_of_none hr2 hso
    -- the rounds
    have fl : (forksM b).length ≤ b.length := by
      unfold forksM
      refine Nat.le_trans (List.length_filter_le _ _) ?_
      rw [List.length_range]
      exact Nat.le_refl _
    refine ⟨fun m σ H' => ∃ (turn : Nat) (st : List Nat) (r : List (Option Int)) (so : Addr) (y5 y6 : Option V), σ = [some (.ref a), some (.int W), some (.ref ro), some (.ref so), some (.int turn), y5, y6] ∧ m = st.length ∧ st.length ≤ 8 ∧ (∀ k ∈ st, k < b.length) ∧ H' ro = some (.lst (r.map oV)) ∧ r.length = b.length ∧
      H' so = some (.lst (st.map nV)) ∧ ro ≠ so ∧ (∀ res fin, Rk b W turn st r res fin → LastM b W res fin) ∧ Ext [] H H',
      ⟨_, 0, forksM b, List.replicate b.length none, so, _, _, rfl, rfl, by omega, fun k hk => (mem_filt.mp hk).1, by rw [upd_ne ros]; exact hr2, List.length_replicate, upd_same, ros, fun _ _ h => h, e3⟩, ?_⟩
    clear e3 hr2 hso0 ros hso ht e2 hr1
    rintro m σ H3 ⟨turn, st, r, so, y5, y6, rfl, rfl, st8, stlt, hR, rlen, hS, ros, hrk, e⟩
    refine ⟨true, rfl, iteT ⟨fun σ H' => ∃ (turn : Nat) (st' : List Nat) (r : List (Option Int)) (so : Addr) (y5 y6 : Option V), σ = [some (.ref a), some (.int W), some (.ref ro), some (.ref so), some (.int turn), y5, y6] ∧ st'.length < st.length ∧ (∀ k ∈ st', k < b.length) ∧ H' ro = some (.lst (r.map oV)) ∧ r.length = b.length ∧
      H' so = some (.lst (st'.map nV)) ∧ ro ≠ so ∧ (∀ res fin, Rk b W turn st' r res fin → LastM b W res fin) ∧ Ext [] H H', ?_, ?_⟩⟩
    · rintro σ' H' ⟨turn, st', r, so, y5, y6, rfl, hlt, h1, h2, h3, h4, h5, h6, h7⟩
      exact ⟨_, hlt, turn, st', r, so, _, _, rfl, rfl, by omega, h1, h2, h3, h4, h5, h6, h7⟩
    -- falling
    refine ⟨_, rfl, so, rfl, ⟨_, .of hS⟩, fun fo hfo => ?_⟩
    have rofo : ro ≠ fo := ne_of_none hR hfo
    have sofo : so ≠ fo := ne_of_none hS hfo
    refine filt_list (K := K) (a := so) (l := st) (fun f => decide ((leadM b W f st).length < 2)) hfo (.of hS) (by omega) (fun v => rfl) (fun v => rfl) (fun k H' hk e2 => ?_) (fun H4 hF e2 => ?_)
    · refine ⟨_, rfl, _, rfl, _, rfl, _, rfl, .ref a, b, k, W, so, st, rfl, hb.ext0 (e.trans e2), fb, stlt k hk, hW, .of (e2.at hS (by simp)), fun t H5 ht e5 => ?_⟩
      refine ⟨t, _, rfl, .inl (.of ht), _, _, rfl, rfl, _, rfl, ?_, e5⟩
      rw [List.length_map]
      refine decide_eq_decide.mpr ?_
      omega
    · have e3 := e.trans e2
      have hR4 := e2.at hR (by simp)
      have hS4 := e2.at hS (by simp)
      -- if not falling: break
      have nR : H ro = none := hro0
      refine ⟨_, rfl, _, .inl ⟨_, .of hF, rfl⟩, ?_⟩
      have em : ((fallM b W st).map nV).isEmpty = (fallM b W st).isEmpty := by cases fallM b W st <;> rfl
      show (if (!(!((fallM b W st).map nV).isEmpty)) = true then _ else _)
      rw [em, Bool.not_not]
      refine ifB (fun hemp => ?_) (fun hemp => ?_)
      · -- the end
        have hemp : fallM b W st = [] := List.isEmpty_iff.mp hemp
        refine ⟨_, rfl, so, rfl, ⟨_, .of hS4⟩, for_list (K := K) (a := so) (xs := st.map nV) (fun k σ H' => ∃ y6 : Option V, σ = [some (.ref a), some (.int W), some (.ref ro), some (.ref so), some (.int turn), some (.ref fo), y6] ∧ H' ro = some (.lst ((setAll r (st.take k) (-1)).map oV)) ∧ H' so = some (.lst (st.map nV)) ∧ Ext [] H H')
          ⟨_, rfl, hR4, hS4, e3⟩ (fun k σ H' _ ⟨_, _, _, h, _⟩ => .of h) ?_ ?_⟩
        · rintro k v σ H' hv ⟨y6, rfl, h1, h2, h3⟩
          obtain ⟨f, hf, rfl⟩ := map_at hv
          refine ⟨1, rfl, _, rfl, _, rfl, ro, _, _, f, rfl, rfl, h1, ixNat ?_, _, rfl, ?_, ?_, h3.put nR⟩
          · rw [List.length_map, setAll_len, rlen]
            exact stlt f (List.mem_of_getElem? hf)
          · rw [upd_same, List.take_add_one, hf]
            show _ = some (HO.lst ((setAll r (st.take k ++ [f]) (-1)).map oV))
            rw [setAll_snoc, List.map_set]
            rfl
          · rw [upd_ne ros.symm]
            exact h2
        · rintro σ H' ⟨y6, rfl, h1, h2, h3⟩
          rw [List.length_map, List.take_length] at h1
          refine ⟨_, rfl, ro, _, rfl, .of h1, fun t H5 ht hH => ?_⟩
          obtain ⟨o, _, rfl⟩ := hH
          exact q _ st t _ (hrk _ _ (.stop hemp)) (.inl (.inr ⟨o, upd_same⟩)) (h3.put2 ht)
      · have hemp : fallM b W st ≠ [] := fun z => by rw [z] at hemp; cases hemp
        have fsub : ∀ k ∈ fallM b W st, k < b.length := fun k hk => stlt k (List.mem_filter.mp hk).1
        -- for fork in falling
        refine ⟨_, rfl, fo, rfl, ⟨_, .of hF⟩, for_list (K := K) (a := fo) (xs := (fallM b W st).map nV) (fun k σ H' => ∃ y6 : Option V, σ = [some (.ref a), some (.int W), some (.ref ro), some (.ref so), some (.int turn), some (.ref fo), y6] ∧ H' ro = some (.lst ((setAll r ((fallM b W st).take k) turn).map oV)) ∧ H' so = some (.lst (st.map nV)) ∧ H' fo = some (.lst ((fallM b W st).map nV)) ∧ Ext [] H H')
          ⟨_, rfl, hR4, hS4, hF, e3⟩ (fun k σ H' _ ⟨_, _, _, _, h, _⟩ => .of h) ?_ ?_⟩
        · rintro k v σ H' hv ⟨y6, rfl, h1, h2, h2', h3⟩
          obtain ⟨f, hf, rfl⟩ := map_at hv
          refine ⟨_, rfl, _, rfl, _, rfl, ro, _, _, f, rfl, rfl, h1, ixNat ?_, _, rfl, ?_, ?_, ?_, h3.put nR⟩
          · rw [List.length_map, setAll_len, rlen]
            exact fsub f (List.mem_of_getElem? hf)
          · rw [upd_same, List.take_add_one, hf]
            show _ = some (HO.lst ((setAll r ((fallM b W st).take k ++ [f]) turn).map oV))
            rw [setAll_snoc, List.map_set]
            rfl
          · rw [upd_ne ros.symm]
            exact h2
          · rw [upd_ne rofo.symm]
            exact h2'
        · rintro σ H5 ⟨y6, rfl, h1, h2, h2', h3⟩
          rw [List.length_map, List.take_length] at h1
          -- standing
          refine ⟨_, rfl, so, rfl, ⟨_, .of h2⟩, fun s2 hs2 => ?_⟩
          have ros2 : ro ≠ s2 := ne_of_none h1 hs2
          refine filt_list (K := K) (a := so) (l := st) (fun f => !decide (f ∈ fallM b W st)) hs2 (.of h2) (by omega) (fun v => rfl) (fun v => rfl) (fun k H' hk e2 => ?_) (fun H6 hS6 e6 => ?_)
          · refine ⟨_, rfl, _, rfl, fo, _, rfl, .inl (.of (e2.at h2' (by simp))), rfl, flat_nV _, _, rfl, ?_, .refl⟩
            show (!inV (nV k) ((fallM b W st).map nV)) = _
            rw [inV_nV]
          · refine ⟨_, rfl, _, _, rfl, rfl, turn + 1, restM b W st, setAll r (fallM b W st) turn, s2, _, _, rfl, rest_len hemp, fun k hk => stlt k (List.mem_filter.mp hk).1, e6.at h1 (by simp), by rw [setAll_len]; exact rlen, hS6, ros2, fun res fin h => hrk res fin (.go hemp h), h3.trans e6⟩
theorem sc_lasting_for : FnScope ["book", "window", "rank_of", "state"] ["book", "window"] (defScope s_lasting_for) := ⟨rfl, rfl, rfl, by decide +kernel, rfl, by decide +kernel, by decide +kernel⟩
def sp_lasting_for (K : PySem.W.Frag) : Sp := fun vs H Q _ => ∃ (v : V) (b : Book) (W : Nat), vs = [v, .int W] ∧ BkV K H v b ∧ FormB b ∧ 1 ≤ W ∧ ∀ (res : List (Option Int)) (fin : List Nat) (t : Addr) (H' : Hp), LastM b W res fin → SqT K H' t ((lastL b res).map nV) → Ext [] H H' → Q (.ref t) H'
theorem ok_lasting_for (T : Tx K mg) : FnOk P w K mg base CX0 5 T.lasting_for.f T.lasting_for.fd ["book", "window"] (sp_lasting_for K) := by
  refine T.lasting_for.F.ok sc_lasting_for (fun vs H Q E h => ?_) (fun cdv A outer s H vs Q E hr h => ?_)
  · obtain ⟨v, b, W, rfl, _⟩ := h; rfl
  · obtain ⟨v, b, W, rfl, hb, fb, hW, q⟩ := h
    have h8 := fb.eight
    refine ⟨_, (pss_cons (ps_set (i := 2) sc_lasting_for.nd rfl (.inr rfl) (pe_call (ok_ranks_for T) (hr.mono (by decide)) (by rfl) T.ranks_for.g T.ranks_for.F.kp T.ranks_for.b .nil pass0 (pa_cons (pv 0) (pa_cons (pv 1) pa_nil))))
      (pss_one (ps_ret (pe_callTy call_tupZ (by rfl) T.n_tuple (by decide +kernel) (pa_cons (pe_lc (own := [("state", 3)]) rfl sc_lasting_for.nd (pi_range1 (by rfl) T.n_range (pa_cons (pe_callB call_len_seq (by rfl) T.n_len PySem.boot_len (pa_cons (pv 0) pa_nil)) pa_nil)) (blkOk_by (own := [("state", 3)]) (N := ["book", "window", "rank_of", "state"]) (sc := defScope s_lasting_for) (by decide +kernel)) (fun _ _ _ _ _ => (pg_name (i := 3) sc_lasting_for.nd rfl (.inl rfl))) (fun _ _ _ _ _ => pts_one (pt_mid (pt_cmpR op_eq (pe_ix (ix_tupK K) (pv 2) (pv 3) (fun _ _ => rfl)) (pe_un un_neg pe_int) (nomark _)))) (fun _ _ _ _ _ => (pv 3))) pa_nil))))), ?_⟩
    refine ⟨_, rfl, _, rfl, v, b, W, rfl, hb, fb, hW, fun res fin t H1 hL ht e1 => ?_⟩
    obtain ⟨a, ls, rfl, ha, hls⟩ := hb.ext0 e1
    have llen := Paired.len hls
    have rl : res.length = b.length := by rw [rk_len hL, List.length_replicate]
    refine ⟨_, rfl, a, _, rfl, .inr ha, _, rfl, by omega, by omega, fun D hD => ?_⟩
    rw [forTo llen]
    refine filt_range (fun s => decide (res[s]? = some (some (-1)))) hD (by omega) (fun v => rfl) (fun v => rfl) (fun k H' hk e => ?_) (fun H' h e => ?_)
    · have hk2 : res[k]? = some res[k] := List.getElem?_eq_getElem (by omega)
      generalize res[k] = x at hk2
      refine ⟨_, rfl, _, rfl, t, _, _, _, rfl, rfl, e.tup Lsts.nil ht, atI_nat (at_map hk2), 1, rfl, by cases x <;> rfl, _, rfl, ?_, .refl⟩
      rw [hk2]
      refine decide_eq_decide.mpr ?_
      cases x with
      | none => exact ⟨fun z => (nomatch z), fun z => (nomatch z)⟩
      | some i =>
        constructor
        · intro z
          have z : i = -1 := V.int.inj z
          rw [z]
        · intro z
          have z : i = -1 := Option.some.inj (Option.some.inj z)
          rw [z]
          rfl
    · refine ⟨D, _, rfl, .of h, fun t2 H2 ht2 hH => ?_⟩
      obtain ⟨o, _, rfl⟩ := hH
      exact q res fin t2 _ hL (.inl (.inr ⟨o, upd_same⟩)) ((e1.trans e).put2 ht2)
theorem sc_least_for : FnScope ["book", "window"] ["book", "window"] (defScope s_least_for) := ⟨rfl, rfl, rfl, by decide +kernel, rfl, by decide +kernel, by decide +kernel⟩
def sp_least_for (K : PySem.W.Frag) : Sp := fun vs H Q _ => ∃ (v : V) (b : Book) (W : Nat), vs = [v, .int W] ∧ BkV K H v b ∧ FormB b ∧ 1 ≤ W ∧ ∀ (res : List (Option Int)) (fin : List Nat) (H' : Hp), LastM b W res fin → Ext [] H H' → Q (.int (leastM b res)) H'
theorem ok_least_for (T : Tx K mg) : FnOk P w K mg base CX0 6 T.least_for.f T.least_for.fd ["book", "window"] (sp_least_for K) := by
  refine T.least_for.F.ok sc_least_for (fun vs H Q E h => ?_) (fun cdv A outer s H vs Q E hr h => ?_)
  · obtain ⟨v, b, W, rfl, _⟩ := h; rfl
  · obtain ⟨v, b, W, rfl, hb, fb, hW, q⟩ := h
    obtain ⟨a, ls, rfl, ha, hls⟩ := id hb
    obtain ⟨res0, fin0, hL0⟩ := rk_ex b W _ 0 (forksM b) (List.replicate b.length none) (Nat.le_refl _)
    obtain ⟨u, hu, c, ps, rfl, hc, hps⟩ := Paired.get hls (mvs_lt (b := b) (s := 0) fb.one)
    refine ⟨_, (pss_cons (ps_if (pt_not (pt_truth (pe_ix ix_tup (pv 0) pe_int (fun _ _ => rfl)) (by intro _; rfl)))
        (pss_one (ps_ret pe_int))
        pss_nil)
      (pss_cons (ps_if (pt_not (pt_truth (pe_call (ok_fork_states T) (hr.mono (by decide)) (by rfl) T.fork_states.g T.fork_states.F.kp T.fork_states.b .nil pass0 (pa_cons (pv 0) pa_nil)) (by intro _; rfl)))
        (pss_one (ps_ret pe_int))
        pss_nil)
      (pss_cons (ps_if (pt_cmpR op_isN (pv 1) pe_non (nomark _))
        (pss_one ps_never)
        pss_nil)
      (pss_cons (ps_if (pt_truth (pe_call (ok_lasting_for T) (hr.mono (by decide)) (by rfl) T.lasting_for.g T.lasting_for.F.kp T.lasting_for.b .nil pass0 (pa_cons (pv 0) (pa_cons (pv 1) pa_nil))) (by intro _; rfl))
        (pss_one (ps_ret pe_int))
        pss_nil)
      (pss_one (ps_ret pe_int)))))), ?_⟩
    refine ⟨_, rfl, a, _, _, _, rfl, rfl, ha, atI_nat (j := 0) hu, _, .inr (.inl ⟨_, hc.sq, rfl⟩), ?_⟩
    show (if (!(!(ps.map V.ref).isEmpty)) = true then _ else _)
    have em : (ps.map V.ref).isEmpty = (mvs b 0).isEmpty := by
      have plen := Paired.len hps
      cases ps <;> cases h : mvs b 0 <;> rw [h] at plen <;> simp at plen <;> rfl
    rw [em, Bool.not_not]
    refine ifB (fun z => ?_) (fun z => ?_)
    · have z : mvs b 0 = [] := List.isEmpty_iff.mp z
      have := q res0 fin0 H hL0 .refl
      unfold leastM at this
      rw [if_pos z] at this
      exact this
    · have z : mvs b 0 ≠ [] := fun y => by rw [y] at z; cases z
      refine ⟨_, rfl, .ref a, b, rfl, hb, fb.eight, fun t H1 ht e1 => ⟨_, .inr (.inl ⟨_, ht, rfl⟩), ?_⟩⟩
      show (if (!(!((forksM b).map nV).isEmpty)) = true then _ else _)
      have em : ((forksM b).map nV).isEmpty = (forksM b).isEmpty := by cases forksM b <;> rfl
      rw [em, Bool.not_not]
      refine ifB (fun y => ?_) (fun y => ?_)
      · have y : forksM b = [] := List.isEmpty_iff.mp y
        have := q res0 fin0 H1 hL0 e1
        unfold leastM at this
        rw [if_neg z, if_pos y] at this
        exact this
      · have y : forksM b ≠ [] := fun x => by rw [x] at y; cases y
        refine ⟨_, rfl, rfl, _, rfl, ?_⟩
        rw [decide_eq_false (by intro z; cases z)]
        refine iteF ⟨_, rfl, _, rfl, .ref a, b, W, rfl, hb.ext0 e1, fb, hW, fun res fin t2 H2 hL ht2 e2 => ⟨_, .inr (.inl ⟨_, ht2, rfl⟩), ?_⟩⟩
        show (if (!((lastL b res).map nV).isEmpty) = true then _ else _)
        have em : ((lastL b res).map nV).isEmpty = (lastL b res).isEmpty := by cases lastL b res <;> rfl
        rw [em]
        have := q res fin H2 hL (e1.trans e2)
        unfold leastM at this
        rw [if_neg z, if_neg y] at this
        by_cases x : lastL b res = []
        · rw [if_pos x] at this
          rw [x]
          exact iteF this
        · rw [if_neg x] at this
          have : (lastL b res).isEmpty = false := by cases h : lastL b res with | nil => exact absurd h x | cons _ _ => rfl
          rw [this]
          refine iteT ?_
          assumption
theorem sc_least_wires : FnScope ["book", "window"] ["book", "window"] (defScope s_least_wires) := ⟨rfl, rfl, rfl, by decide +kernel, rfl, by decide +kernel, by decide +kernel⟩
def sp_least_wires (K : PySem.W.Frag) : Sp := fun vs H Q _ => ∃ (v : V) (b : Book) (W : Nat), vs = [v, .int W] ∧ BkV K H v b ∧ OkB b ∧ 1 ≤ W ∧ ∀ (res : List (Option Int)) (fin : List Nat) (H' : Hp), LastM b W res fin → Ext [] H H' → Q (.int (leastM b res)) H'
theorem ok_least_wires (T : Tx K mg) : FnOk P w K mg base CX0 7 T.least_wires.f T.least_wires.fd ["book", "window"] (sp_least_wires K) := by
  refine T.least_wires.F.ok sc_least_wires (fun vs H Q E h => ?_) (fun cdv A outer s H vs Q E hr h => ?_)
  · obtain ⟨v, b, W, rfl, _⟩ := h; rfl
  · obtain ⟨v, b, W, rfl, hb, ok, hW, q⟩ := h
    refine ⟨_, (pss_cons (ps_expr (pe_call (ok_made_book T) (hr.mono (by decide)) (by rfl) T.made_book.g T.made_book.F.kp T.made_book.b .nil pass0 (pa_cons (pv 0) pa_nil)))
      (pss_cons (ps_expr (pe_call (ok_made_window T) (hr.mono (by decide)) (by rfl) T.made_window.g T.made_window.F.kp T.made_window.b .nil pass0 (pa_cons (pv 1) pa_nil)))
      (pss_one (ps_ret (pe_call (ok_least_for T) (hr.mono (by decide)) (by rfl) T.least_for.g T.least_for.F.kp T.least_for.b .nil pass0 (pa_cons (pv 0) (pa_cons (pv 1) pa_nil))))))), ?_⟩
    refine ⟨_, rfl, v, b, rfl, hb, ok, fun H1 e1 => ?_⟩
    refine ⟨_, rfl, W, rfl, hW, ?_⟩
    exact ⟨_, rfl, _, rfl, v, b, W, rfl, hb.ext0 e1, ok.toFormB, hW, fun res fin H' hL e => q res fin H' hL (e1.trans e)⟩
theorem sc_from_window : FnScope ["book", "window"] ["book"] (defScope s_from_window) := ⟨rfl, rfl, rfl, by decide +kernel, rfl, by decide +kernel, by decide +kernel⟩
def sp_from_window (K : PySem.W.Frag) : Sp := fun vs H Q _ => ∃ (v : V) (b : Book), vs = [v] ∧ BkV K H v b ∧ OkB b ∧ ∀ (o : Option Nat) (H' : Hp), FromW b o → Ext [] H H' → Q (oN o) H'
theorem ok_from_window (T : Tx K mg) : FnOk P w K mg base CX0 7 T.from_window.f T.from_window.fd ["book"] (sp_from_window K) := by
  refine T.from_window.F.ok sc_from_window (fun vs H Q E h => ?_) (fun cdv A outer s H vs Q E hr h => ?_)
  · obtain ⟨v, b, rfl, _⟩ := h; rfl
  · obtain ⟨v, b, rfl, hb, ok, q⟩ := h
    refine ⟨_, (pss_cons (ps_expr (pe_call (ok_made_book T) (hr.mono (by decide)) (by rfl) T.made_book.g T.made_book.F.kp T.made_book.b .nil pass0 (pa_cons (pv 0) pa_nil)))
      (pss_cons (ps_for PassesOwn.never rfl (pi_range2 (by rfl) T.n_range (pa_cons pe_int (pa_cons (pe_op op_add (pe_glob (v := .int 9) (by rfl) T.c_LAST_WINDOW.choose_spec ⟨_, rfl⟩) pe_int) pa_nil))) (pg_name (i := 1) sc_from_window.nd rfl (.inl rfl))
        (pss_one (ps_if (pt_cmpR op_eq (pe_call (ok_least_for T) (hr.mono (by decide)) (by rfl) T.least_for.g T.least_for.F.kp T.least_for.b .nil pass0 (pa_cons (pv 0) (pa_cons (pv 1) pa_nil))) pe_int (nomark _))
          (pss_one (ps_ret (pv 1)))
          pss_nil)))
      (pss_one (ps_ret pe_non)))), ?_⟩
    refine ⟨_, rfl, v, b, rfl, hb, ok, fun H1 e1 => ?_⟩
    refine ⟨_, _, rfl, rfl, 1, 10, rfl, ⟨by decide, by decide, by decide, by decide⟩, for_range (lo := 1) (n := 9) (fun i σ H' => (∃ y : Option V, σ = [some v, y]) ∧ (∀ V, 1 ≤ V → V ≤ i → ∀ res fin, LastM b V res fin → leastM b res ≠ 3) ∧ Ext [] H H') ⟨⟨_, rfl⟩, fun V h1 h2 => by omega, e1⟩ ?_ ?_⟩
    · rintro i σ H' hi ⟨⟨y, rfl⟩, hno, e⟩
      have ei : (1 : Int) + (i : Int) = ((i + 1 : Nat) : Int) := by omega
      rw [ei]
      refine ⟨_, rfl, _, rfl, v, b, i + 1, rfl, hb.ext0 e, ok.toFormB, by omega, fun res fin H2 hL e2 => ⟨rfl, _, rfl, ?_⟩⟩
      have hd : decide (V.int (leastM b res : Nat) = V.int 3) = decide (leastM b res = 3) := by
        rw [dec_int]
        refine decide_eq_decide.mpr ?_
        omega
      rw [hd]
      refine ite2 (fun z => ?_) (fun z => ?_)
      · have z := of_decide_eq_true z
        exact ⟨_, rfl, q (some (i + 1)) H2 ⟨by omega, by omega, ⟨res, fin, hL, z⟩, fun V h1 h2 => hno V h1 (by omega)⟩ (e.trans e2)⟩
      · have z : ¬ leastM b res = 3 := fun y => z (decide_eq_true y)
        refine ⟨⟨_, rfl⟩, fun V h1 h2 res' fin' hL' => ?_, e.trans e2⟩
        by_cases h : V ≤ i
        · exact hno V h1 h res' fin' hL'
        · have : V = i + 1 := by omega
          subst this
          rw [← (rk_fun hL hL').1]
          exact z
    · rintro σ H' ⟨⟨y, rfl⟩, hno, e⟩
      exact q none H' hno e
end
end Nv
set_option linter.all false
namespace Nv
/-! ### states on rings -/
def ringsM (b : Book) : List Nat := (List.range b.length).filter fun s => decide (0 < waysM b s)
def ringForksM (b : Book) : List Nat := (forksM b).filter fun s => decide (s ∈ ringsM b)
end Nv
set_option linter.all false
namespace Nv
/-! ### ends, level by level -/
def nextL (b : Book) (L : List Nat) : List Nat := (List.range b.length).filter fun k => L.any fun j => (mvs b j).any fun p => p.2 == k
def exL (b : Book) (s : Nat) : Nat → List Nat
  | 0 => [s]
  | n + 1 => nextL b (exL b s n)
def endsL (b : Book) (s m : Nat) : List Nat := if m = 0 then [] else wiL b s (m - 1)
theorem any_mv {b : Book} {L : List Nat} {k : Nat} : (L.any fun j => (mvs b j).any fun p => p.2 == k) = true ↔ ∃ j ∈ L, ∃ p ∈ mvs b j, p.2 = k := by
  rw [List.any_eq_true]
  constructor
  · rintro ⟨j, hj, h⟩
    obtain ⟨p, hp, e⟩ := List.any_eq_true.mp h
    exact ⟨j, hj, p, hp, by simpa using e⟩
  · rintro ⟨j, hj, p, hp, e⟩
    exact ⟨j, hj, List.any_eq_true.mpr ⟨p, hp, by simpa using e⟩⟩
theorem mem_next {b : Book} (fb : FormB b) {L : List Nat} {k : Nat} : k ∈ nextL b L ↔ ∃ j ∈ L, ∃ p ∈ mvs b j, p.2 = k := by
  unfold nextL
  rw [mem_filt, any_mv]
  constructor
  · exact fun h => h.2
  · rintro ⟨j, hj, p, hp, e⟩
    exact ⟨by rw [← e]; exact fb.to hp, j, hj, p, hp, e⟩
theorem mem_step {b : Book} (fb : FormB b) {L : List Nat} (hL : ∀ k ∈ L, k < b.length) {k : Nat} : k ∈ stepL b L ↔ k ∈ L ∨ ∃ j ∈ L, ∃ p ∈ mvs b j, p.2 = k := by
  unfold stepL nextB
  rw [mem_filt, Bool.or_eq_true, decide_eq_true_eq, any_mv]
  constructor
  · exact fun h => h.2
  · rintro (h | ⟨j, hj, p, hp, e⟩)
    · exact ⟨hL k h, .inl h⟩
    · exact ⟨by rw [← e]; exact fb.to hp, .inr ⟨j, hj, p, hp, e⟩⟩
theorem exL_srt (b : Book) (s : Nat) : ∀ n, (exL b s n).Pairwise (· < ·)
  | 0 => by simp [exL]
  | n + 1 => filt_srt _ _
theorem exL_lt {b : Book} {s : Nat} (hs : s < b.length) : ∀ n, ∀ k ∈ exL b s n, k < b.length
  | 0, k, hk => by rw [List.mem_singleton.mp hk]; exact hs
  | n + 1, k, hk => (mem_filt.mp hk).1
theorem exL_len {b : Book} {s : Nat} (hs : s < b.length) (n : Nat) : (exL b s n).length ≤ b.length := nodup_le (srt_nodup (exL_srt b s n)) (exL_lt hs n)
theorem wi_ex {b : Book} (fb : FormB b) {s : Nat} (hs : s < b.length) : ∀ (n k : Nat), k ∈ wiL b s n ↔ ∃ j, j ≤ n ∧ k ∈ exL b s j := by
  intro n
  induction n with
  | zero =>
    intro k
    constructor
    · exact fun h => ⟨0, Nat.le_refl _, h⟩
    · rintro ⟨j, hj, h⟩
      have : j = 0 := by omega
      subst this
      exact h
  | succ n ih =>
    intro k
    show k ∈ stepL b (wiL b s n) ↔ _
    rw [mem_step fb (wiL_lt hs n)]
    constructor
    · rintro (h | ⟨x, hx, p, hp, e⟩)
      · obtain ⟨j, hj, h⟩ := (ih k).mp h
        exact ⟨j, by omega, h⟩
      · obtain ⟨j, hj, h⟩ := (ih x).mp hx
        exact ⟨j + 1, by omega, (mem_next fb).mpr ⟨x, h, p, hp, e⟩⟩
    · rintro ⟨j, hj, h⟩
      by_cases hjn : j ≤ n
      · exact .inl ((ih k).mpr ⟨j, hjn, h⟩)
      · have : j = n + 1 := by omega
        subst this
        obtain ⟨x, hx, p, hp, e⟩ := (mem_next fb).mp h
        exact .inr ⟨x, (ih x).mpr ⟨n, Nat.le_refl _, hx⟩, p, hp, e⟩
theorem mem_ends {b : Book} (fb : FormB b) {s : Nat} (hs : s < b.length) {m k : Nat} : k ∈ endsL b s m ↔ ∃ j, j < m ∧ k ∈ exL b s j := by
  unfold endsL
  split
  · rename_i h
    constructor
    · intro z; cases z
    · rintro ⟨j, hj, _⟩; omega
  · rw [wi_ex fb hs]
    constructor
    · rintro ⟨j, hj, h⟩
      exact ⟨j, by omega, h⟩
    · rintro ⟨j, hj, h⟩
      exact ⟨j, by omega, h⟩
theorem endsL_srt (b : Book) (s m : Nat) : (endsL b s m).Pairwise (· < ·) := by
  unfold endsL
  split
  · exact .nil
  · exact wiL_srt _ _ _
theorem endsL_lt {b : Book} {s m : Nat} (hs : s < b.length) : ∀ k ∈ endsL b s m, k < b.length := by
  unfold endsL
  split
  · intro k hk; cases hk
  · exact wiL_lt hs _
theorem endsL_len {b : Book} {s m : Nat} (hs : s < b.length) : (endsL b s m).length ≤ b.length := nodup_le (srt_nodup (endsL_srt b s m)) (endsL_lt hs)
/-! ### steps of any number -/
inductive Rt (b : Book) : Nat → Nat → Prop
  | refl (s : Nat) : Rt b s s
  | step {s k : Nat} {p : Nat × Nat} : Rt b s k → p ∈ mvs b k → Rt b s p.2
theorem Rt.trans {b : Book} {x y z : Nat} (h : Rt b x y) (k : Rt b y z) : Rt b x z := by
  induction k with
  | refl => exact h
  | step _ hp ih => exact ih.step hp
theorem Rt.one {b : Book} {x : Nat} {p : Nat × Nat} (hp : p ∈ mvs b x) : Rt b x p.2 := (Rt.refl x).step hp
theorem wi_mono {b : Book} (fb : FormB b) {s : Nat} (hs : s < b.length) {n m : Nat} (h : n ≤ m) {k : Nat} (hk : k ∈ wiL b s n) : k ∈ wiL b s m := by
  obtain ⟨j, hj, e⟩ := (wi_ex fb hs n k).mp hk
  exact (wi_ex fb hs m k).mpr ⟨j, by omega, e⟩
theorem wi_rt {b : Book} (fb : FormB b) {s : Nat} (hs : s < b.length) : ∀ (n k : Nat), k ∈ wiL b s n → Rt b s k := by
  intro n
  induction n with
  | zero => intro k hk; rw [List.mem_singleton.mp hk]; exact .refl s
  | succ n ih =>
    intro k hk
    rcases (mem_step fb (wiL_lt hs n)).mp hk with h | ⟨x, hx, p, hp, e⟩
    · exact ih k h
    · rw [← e]
      exact (ih x hx).step hp
/-- it stays as it is, or grows -/
theorem wi_grow {b : Book} (fb : FormB b) {s : Nat} (hs : s < b.length) : ∀ n, n + 1 ≤ (wiL b s n).length ∨ ∀ m, n ≤ m → wiL b s m = wiL b s n := by
  intro n
  induction n with
  | zero => exact .inl (by simp [wiL])
  | succ n ih =>
    rcases ih with h | h
    · by_cases e : wiL b s (n + 1) = wiL b s n
      · refine .inr fun m hm => ?_
        have key : ∀ d, wiL b s (n + 1 + d) = wiL b s (n + 1) := by
          intro d
          induction d with
          | zero => rfl
          | succ d ih2 =>
            show stepL b (wiL b s (n + 1 + d)) = _
            rw [ih2, e]
            exact e
        have : m = n + 1 + (m - (n + 1)) := by omega
        rw [this]
        exact key _
      · refine .inl ?_
        have sub : ∀ k ∈ wiL b s n, k ∈ wiL b s (n + 1) := fun k hk => wi_mono fb hs (by omega) hk
        have le := List.Nodup.length_le_of_subset (srt_nodup (wiL_srt b s n)) sub
        by_cases eq : (wiL b s n).length = (wiL b s (n + 1)).length
        · exfalso
          refine e (srt_eq (wiL_srt _ _ _) (wiL_srt _ _ _) fun k => ⟨fun hk => ?_, sub k⟩)
          by_cases hin : k ∈ wiL b s n
          · exact hin
          · exfalso
            have nd : (k :: wiL b s n).Nodup := List.nodup_cons.mpr ⟨hin, srt_nodup (wiL_srt b s n)⟩
            have := List.Nodup.length_le_of_subset nd (l₂ := wiL b s (n + 1)) (fun z hz => by
              rcases List.mem_cons.mp hz with hz | hz
              · rw [hz]; exact hk
              · exact sub z hz)
            rw [List.length_cons] at this
            omega
        · omega
    · refine .inr fun m hm => ?_
      rw [h m (by omega), h (n + 1) (by omega)]
/-- within one step less than there are states all is met -/
theorem wi_full {b : Book} (fb : FormB b) {s : Nat} (hs : s < b.length) : ∀ m, b.length - 1 ≤ m → wiL b s m = wiL b s (b.length - 1) := by
  have h1 := fb.one
  rcases wi_grow fb hs (b.length - 1) with h | h
  · intro m hm
    have full : ∀ m, b.length - 1 ≤ m → ∀ k, k ∈ wiL b s m ↔ k < b.length := by
      intro m hm k
      refine ⟨fun hk => wiL_lt hs m k hk, fun hk => ?_⟩
      by_cases hin : k ∈ wiL b s m
      · exact hin
      · exfalso
        have hk2 : k ∉ wiL b s (b.length - 1) := fun z => hin (wi_mono fb hs hm z)
        have nd : (k :: wiL b s (b.length - 1)).Nodup := List.nodup_cons.mpr ⟨hk2, srt_nodup (wiL_srt b s _)⟩
        have := nodup_le (n := b.length) nd (fun z hz => by
          rcases List.mem_cons.mp hz with hz | hz
          · rw [hz]; exact hk
          · exact wiL_lt hs _ z hz)
        rw [List.length_cons] at this
        omega
    refine srt_eq (wiL_srt _ _ _) (wiL_srt _ _ _) fun k => ?_
    rw [full m hm, full _ (Nat.le_refl _)]
  · exact h
theorem rt_wi {b : Book} (fb : FormB b) {s k : Nat} (hs : s < b.length) (h : Rt b s k) : k ∈ wiL b s (b.length - 1) := by
  induction h with
  | refl => exact wi_mono fb hs (Nat.zero_le _) (by simp [wiL])
  | step h hp ih =>
    rw [← wi_full fb hs (b.length - 1 + 1) (by omega)]
    exact (mem_step fb (wiL_lt hs _)).mpr (.inr ⟨_, ih, _, hp, rfl⟩)
theorem mem_wi {b : Book} (fb : FormB b) {s k m : Nat} (hs : s < b.length) (hm : b.length - 1 ≤ m) : k ∈ wiL b s m ↔ Rt b s k := by
  rw [wi_full fb hs m hm]
  exact ⟨fun h => wi_rt fb hs _ k h, rt_wi fb hs⟩
/-- the law's knots -/
def backM (b : Book) (s : Nat) : Nat := ((mvs b s).filter fun p => decide (s ∈ endsL b p.2 8)).length
theorem back_ways {b : Book} (fb : FormB b) (s : Nat) : backM b s = waysM b s := by
  unfold backM waysM
  congr 1
  refine List.filter_congr fun p hp => decide_eq_decide.mpr ?_
  have hp2 := fb.to hp
  have h8 := fb.eight
  show s ∈ wiL b p.2 7 ↔ s ∈ wiL b p.2 (min b.length b.length)
  rw [mem_wi fb hp2 (by omega), mem_wi fb hp2 (by omega)]
theorem knots_law {b : Book} (fb : FormB b) : (List.range b.length).filter (fun s => decide (1 < backM b s)) = knotsM b := by
  unfold knotsM
  refine List.filter_congr fun s _ => ?_
  rw [back_ways fb]
end Nv
set_option Elab.async false
set_option linter.all false
set_option maxRecDepth 100000
namespace Nv
open PySem PySem.Spec PyProof.Rows L2
section
variable {P : Program} {w : World} {K : PySem.W.Frag} {mg : Str → Option Value} {base : Heap}
/-! ### the law's own ends -/
theorem sc_law_win_ends : FnScope ["book", "first", "many", "found", "level", "turn", "ahead", "state", "message", "to"] ["book", "first", "many"] (defScope s_law_win_ends) := ⟨rfl, rfl, rfl, by decide +kernel, rfl, by decide +kernel, by decide +kernel⟩
def sp_law_win_ends (K : PySem.W.Frag) : Sp := fun vs H Q _ => ∃ (v : V) (b : Book) (s m : Nat), vs = [v, .int s, .int m] ∧ BkV K H v b ∧ FormB b ∧ s < b.length ∧ ∀ (t : Addr) (H' : Hp), H' t = some (.lst ((endsL b s (min m 8)).map nV)) → Ext [] H H' → H t = none → Q (.ref t) H'
theorem ok_law_win_ends (T : Tx K mg) : FnOk P w K mg base CX0 1 T.law_win_ends.f T.law_win_ends.fd ["book", "first", "many"] (sp_law_win_ends K) := by
  refine T.law_win_ends.F.ok sc_law_win_ends (fun vs H Q E h => ?_) (fun cdv A outer s H vs Q E hr h => ?_)
  · obtain ⟨v, b, s, m, rfl, _⟩ := h; rfl
  · obtain ⟨v, b, st, m, rfl, ⟨a, ls, rfl, ha, hls⟩, fb, hs, q⟩ := h
    have llen := Paired.len hls
    have h8 := fb.eight
    refine ⟨_, (pss_cons (ps_asg (pe_tup (pa_cons (pe_lst pa_nil) (pa_cons (pe_lst (pa_cons (pv 1) pa_nil)) pa_nil))) (pg_tup rfl (pgs_cons (pg_name (i := 3) sc_law_win_ends.nd rfl (.inr rfl)) (pgs_cons (pg_name (i := 4) sc_law_win_ends.nd rfl (.inl rfl)) pgs_nil))))
      (pss_cons (ps_for PassesOwn.never rfl (pi_range1 (by rfl) T.n_range (pa_cons (pe_callB (call_min2 rfl) (by rfl) T.n_min (by decide +kernel) (pa_cons (pv 2) (pa_cons pe_int pa_nil))) pa_nil)) (pg_name (i := 5) sc_law_win_ends.nd rfl (.inl rfl))
        (pss_cons (ps_set (i := 3) sc_law_win_ends.nd rfl (.inr rfl) (pe_op op_cat (pv 3) (pe_lc (own := [("state", 7)]) rfl sc_law_win_ends.nd (pi_list (pv 4)) (blkOk_by (own := [("state", 7)]) (N := ["book", "first", "many", "found", "level", "turn", "ahead", "state", "message", "to"]) (sc := defScope s_law_win_ends) (by decide +kernel)) (fun _ _ _ _ _ => (pg_name (i := 7) sc_law_win_ends.nd rfl (.inl rfl))) (fun _ _ _ _ _ => pts_one (pt_mid (pt_cmpR (op_notIn_seqK K) (pv 7) (pv 3) (by rfl)))) (fun _ _ _ _ _ => (pv 7)))))
        (pss_cons (ps_set (i := 6) sc_law_win_ends.nd rfl (.inl rfl) (pe_lst pa_nil))
        (pss_cons (ps_for PassesOwn.never rfl (pi_list (pv 4)) (pg_name (i := 7) sc_law_win_ends.nd rfl (.inl rfl))
          (pss_one (ps_set (i := 6) sc_law_win_ends.nd rfl (.inl rfl) (pe_op op_cat (pv 6) (pe_lc (own := [("message", 8), ("to", 9)]) rfl sc_law_win_ends.nd (pi_tup (pe_ix ix_tup (pv 0) (pv 7) (fun _ _ => rfl))) (blkOk_by (own := [("message", 8), ("to", 9)]) (N := ["book", "first", "many", "found", "level", "turn", "ahead", "state", "message", "to"]) (sc := defScope s_law_win_ends) (by decide +kernel)) (fun _ _ _ _ _ => (pg_tupK (n := 2) K rfl (pgs_cons (pg_name (i := 8) sc_law_win_ends.nd rfl (.inl rfl)) (pgs_cons (pg_name (i := 9) sc_law_win_ends.nd rfl (.inl rfl)) pgs_nil)))) (fun _ _ _ _ _ => pts_nil) (fun _ _ _ _ _ => (pv 9)))))))
        (pss_one (ps_set (i := 4) sc_law_win_ends.nd rfl (.inl rfl) (pe_callB (cr_sortedSet rfl) (by rfl) T.n_sorted (by decide +kernel) (pa_cons (pe_callTy (cr_setI rfl) (by rfl) T.n_set (by decide +kernel) (pa_cons (pv 6) pa_nil)) pa_nil))))))))
      (pss_one (ps_ret (pe_callB cr_sorted (by rfl) T.n_sorted (by decide +kernel) (pa_cons (pv 3) pa_nil)))))), ?_⟩
    -- found, level
    refine ⟨Nat.zero_le _, fun f hf => ?_⟩
    refine ⟨_, rfl, (by show 1 ≤ sizeLine; decide), fun lv hlv => ⟨(by show 2 ≤ sizeLine; decide), fun t ht => ?_⟩⟩
    have e0 : Ext [] H (upd (upd (upd H f (.lst [])) lv (.lst [.int st])) t (.tup [.ref f, .ref lv])) := ((Ext.new (L := []) hf).trans (.new hlv)).trans (.new ht)
    refine ⟨t, _, rfl, .of upd_same, rfl, _, _, rfl, _, _, rfl, rfl, ?_⟩
    have flv : f ≠ lv := fun z => by rw [z, upd_same] at hlv; cases hlv
    have hf0 : upd (upd (upd H f (.lst [])) lv (.lst [.int st])) t (.tup [.ref f, .ref lv]) f = some (.lst (([] : List Nat).map nV)) := by
      rw [upd_ne (fun z => by rw [← z, upd_ne flv, upd_same] at ht; cases ht), upd_ne flv, upd_same]
      rfl
    have hl0 : upd (upd (upd H f (.lst [])) lv (.lst [.int st])) t (.tup [.ref f, .ref lv]) lv = some (.lst ((exL b st 0).map nV)) := by
      rw [upd_ne (fun z => by rw [← z, upd_same] at ht; cases ht), upd_same]
      rfl
    generalize upd (upd (upd H f (.lst [])) lv (.lst [.int st])) t (.tup [.ref f, .ref lv]) = H0 at *
    have hmin : (if (8 : Int) < (m : Int) then (8 : Int) else (m : Int)) = ((min m 8 : Nat) : Int) := by
      by_cases h : (8 : Int) < (m : Int)
      · rw [if_pos h]; omega
      · rw [if_neg h]; omega
    refine ⟨_, rfl, _, _, rfl, _, rfl, ?_⟩
    rw [hmin]
    refine ⟨by omega, by omega, ?_⟩
    rw [Int.toNat_natCast]
    refine for_range (lo := 0) (n := _) (fun i σ H' => ∃ (f lv : Addr) (F : List Nat) (y5 y6 y7 : Option V), σ = [some (.ref a), some (.int st), some (.int m), some (.ref f), some (.ref lv), y5, y6, y7, none, none] ∧ H' f = some (.lst (F.map nV)) ∧ F.Nodup ∧ (∀ k, k ∈ F ↔ ∃ j, j < i ∧ k ∈ exL b st j) ∧
      H' lv = some (.lst ((exL b st i).map nV)) ∧ Ext [] H H') ⟨f, lv, [], _, _, _, rfl, hf0, .nil, fun k => by simp, hl0, e0⟩ ?_ ?_
    · rintro i σ H1 hi ⟨f, lv, F, y5, y6, y7, rfl, hF, Fnd, Fm, hL, e1⟩
      have Flt : ∀ k ∈ F, k < b.length := fun k hk => by
        obtain ⟨j, _, h⟩ := (Fm k).mp hk
        exact exL_lt hs j k h
      have Fl := nodup_le Fnd Flt
      have Ll := exL_len hs i
      have Llt := exL_lt hs i
      -- found = found + [..]
      refine ⟨_, rfl, _, rfl, lv, rfl, ⟨_, .of hL⟩, fun D hD => ?_⟩
      refine filt_list (K := K) (a := lv) (l := exL b st i) (fun k => !decide (k ∈ F)) hD (.of hL) (by omega) (fun v => rfl) (fun v => rfl) (fun k H' hk e2 => ?_) (fun H2 hD2 e2 => ?_)
      · refine ⟨_, rfl, _, rfl, f, _, rfl, .inl (.of (e2.at hF (by simp))), rfl, flat_nV _, _, rfl, ?_, .refl⟩
        show (!inV (nV k) (F.map nV)) = _
        rw [inV_nV]
      · have hF2 := e2.at hF (by simp)
        have hL2 := e2.at hL (by simp)
        have tl : ((exL b st i).filter fun k => !decide (k ∈ F)).length ≤ b.length := Nat.le_trans (List.length_filter_le _ _) Ll
        refine ⟨f, D, _, _, rfl, rfl, hF2, hD2, by rw [List.length_map, List.length_map]; exact Nat.le_of_lt (small1000 (by omega)), fun c hc => ?_⟩
        have e3 := (e1.trans e2).put2 (o := .lst (F.map nV ++ ((exL b st i).filter fun k => !decide (k ∈ F)).map nV)) hc
        have hL3 : upd H2 c (.lst (F.map nV ++ ((exL b st i).filter fun k => !decide (k ∈ F)).map nV)) lv = some (.lst ((exL b st i).map nV)) := by
          rw [upd_ne (ne_of_none hL2 hc)]
          exact hL2
        have hF3 : upd H2 c (.lst (F.map nV ++ ((exL b st i).filter fun k => !decide (k ∈ F)).map nV)) c = some (.lst ((F ++ (exL b st i).filter fun k => !decide (k ∈ F)).map nV)) := by
          rw [upd_same, List.map_append]
        have Fm2 : ∀ k, k ∈ F ++ ((exL b st i).filter fun k => !decide (k ∈ F)) ↔ ∃ j, j < i + 1 ∧ k ∈ exL b st j := fun k => by
          rw [List.mem_append, List.mem_filter]
          constructor
          · rintro (h | ⟨h, _⟩)
            · obtain ⟨j, hj, h⟩ := (Fm k).mp h
              exact ⟨j, by omega, h⟩
            · exact ⟨i, by omega, h⟩
          · rintro ⟨j, hj, h⟩
            by_cases hin : k ∈ F
            · exact .inl hin
            · refine .inr ⟨?_, by rw [decide_eq_false hin]; rfl⟩
              have : j = i := by
                by_cases hji : j < i
                · exact absurd ((Fm k).mpr ⟨j, hji, h⟩) hin
                · omega
              rw [← this]
              exact h
        have Fnd2 : (F ++ ((exL b st i).filter fun k => !decide (k ∈ F))).Nodup := by
          rw [List.nodup_append]
          refine ⟨Fnd, List.Nodup.sublist List.filter_sublist (srt_nodup (exL_srt b st i)), fun x hx y hy e => ?_⟩
          have := (List.mem_filter.mp hy).2
          rw [← e, decide_eq_true hx] at this
          cases this
        clear hD2 hF2 hL2 e2 hD tl Flt Fl
        generalize F ++ ((exL b st i).filter fun k => !decide (k ∈ F)) = F2 at *
        generalize upd H2 c (.lst (F.map nV ++ ((exL b st i).filter fun k => !decide (k ∈ F)).map nV)) = H3 at *
        -- ahead = []
        refine ⟨Nat.zero_le _, fun ao hao => ?_⟩
        have e4 := e3.put2 (o := .lst []) hao
        have hL4 : upd H3 ao (.lst []) lv = _ := (upd_ne (ne_of_none hL3 hao)).trans hL3
        have hF4 : upd H3 ao (.lst []) c = _ := (upd_ne (ne_of_none hF3 hao)).trans hF3
        refine ⟨_, rfl, lv, rfl, ⟨_, .of hL4⟩, for_list (K := K) (a := lv) (xs := (exL b st i).map nV) (fun j σ H' => ∃ (an : Addr) (ah : List Nat) (y7 : Option V), σ = [some (.ref a), some (.int st), some (.int m), some (.ref c), some (.ref lv), some (.int (0 + i)), some (.ref an), y7, none, none] ∧
          H' an = some (.lst (ah.map nV)) ∧ ah.length ≤ 5 * j ∧ (∀ k, k ∈ ah ↔ ∃ x ∈ (exL b st i).take j, ∃ p ∈ mvs b x, p.2 = k) ∧ Ext [] (upd H3 ao (.lst [])) H') ⟨ao, [], _, rfl, upd_same, Nat.zero_le _, fun k => by simp, .refl⟩ (fun j σ H' _ ⟨_, _, _, _, _, _, _, e⟩ => .of (e.at hL4 (by simp))) ?_ ?_⟩
        · rintro j v σ H' hv ⟨ao2, ah, y7, rfl, hA, al, am, e5⟩
          obtain ⟨x, hx, rfl⟩ := map_at hv
          have hxb : x < b.length := Llt x (List.mem_of_getElem? hx)
          obtain ⟨u, hu, g, ps, rfl, hg, hps⟩ := Paired.get hls (mvs_lt hxb)
          have plen := Paired.len hps
          have five := (fb.ok hxb).few
          have e6 := e4.trans e5
          have hjl : j < b.length := by
            have := (List.getElem?_eq_some_iff.mp hx).1
            omega
          refine ⟨_, rfl, _, rfl, _, rfl, a, _, _, _, rfl, rfl, e6.tup Lsts.nil ha, atI_nat hu, g, rfl, ⟨_, (e6.tz Lsts.nil hg).sq⟩, fun D hD => ?_⟩
          refine lc_tup (K := K) (a := g) (xs := ps.map V.ref) (fun k H2 => H2 D = some (.lst ((((mvs b x).take k).map (·.2)).map nV)) ∧ Ext [] H' H2) ⟨upd_same, .new hD⟩ (fun k H2 _ ⟨_, e⟩ => ((e6.trans e).tz Lsts.nil hg).sq) ?_ ?_
          · rintro k v H2 hv2 ⟨hD2, e7⟩
            obtain ⟨gg, hgg, rfl⟩ := map_at hv2
            obtain ⟨p, hp, hcp⟩ := Paired.get' hps hgg
            have hk5 : k < 5 := by
              have := (List.getElem?_eq_some_iff.mp hp).1
              omega
            refine ⟨gg, _, rfl, hcp.ext0 (e6.trans e7), rfl, _, _, rfl, _, _, rfl, rfl, rfl, yes ?_⟩
            refine ⟨_, rfl, _, hD2, by rw [List.length_map, List.length_map, List.length_take]; exact small1000 (by omega), ?_, e7.put hD⟩
            rw [upd_same, List.take_add_one, hp, List.map_append, List.map_append]
            rfl
          · rintro H2 ⟨hD2, e7⟩
            rw [List.length_map, plen, List.take_length] at hD2
            refine ⟨ao2, D, _, _, rfl, rfl, e7.at hA (by simp), hD2, by rw [List.length_map, List.length_map, List.length_map]; exact Nat.le_of_lt (small1000 (by omega)), fun c2 hc2 => ?_⟩
            refine ⟨c2, ah ++ (mvs b x).map (·.2), _, rfl, by rw [upd_same, List.map_append], by rw [List.length_append, List.length_map]; omega, fun k => ?_, (e5.trans e7).put2 hc2⟩
            rw [List.mem_append, am, List.take_add_one, hx, List.mem_map]
            constructor
            · rintro (⟨y, hy, r⟩ | ⟨p, hp, e⟩)
              · exact ⟨y, List.mem_append_left _ hy, r⟩
              · exact ⟨x, List.mem_append_right _ (by simp), p, hp, e⟩
            · rintro ⟨y, hy, p, hp, e⟩
              rcases List.mem_append.mp hy with hy | hy
              · exact .inl ⟨y, hy, p, hp, e⟩
              · have : y = x := by simpa using hy
                subst this
                exact .inr ⟨p, hp, e⟩
        · rintro σ H' ⟨ao2, ah, y7, rfl, hA, al, am, e5⟩
          rw [List.length_map] at al am
          rw [List.take_length] at am
          refine ⟨_, rfl, ao2, ah.map (fun n : Nat => (n : Int)), rfl, .of (by rw [hA, map_nV_int]), by rw [List.length_map]; omega, fun p z hp hz => ?_⟩
          have e6 := (e4.trans e5).put2 (o := SetO w p (fun j => decide (j ∈ ah.map (fun n : Nat => (n : Int)))) z) hp
          refine ⟨p, _, z, rfl, upd_same, ?_, fun ns t hns hmem hlen ht => ?_⟩
          · rw [List.length_map] at hz
            omega
          have nn : ∃ ms : List Nat, ns = ms.map (fun n : Nat => (n : Int)) := by
            refine ⟨ns.map Int.toNat, ?_⟩
            rw [List.map_map]
            conv => lhs; rw [← List.map_id ns]
            refine List.map_congr_left fun x hx => ?_
            have := of_decide_eq_true ((hmem x).mp hx)
            obtain ⟨n, _, rfl⟩ := List.mem_map.mp this
            rfl
          obtain ⟨ms, rfl⟩ := nn
          have ems : ms = exL b st (i + 1) := by
            refine srt_eq ?_ (exL_srt _ _ _) fun k => ?_
            · rw [List.pairwise_map] at hns
              exact List.Pairwise.imp (fun h => by omega) hns
            · have h1 := hmem (k : Int)
              rw [decide_eq_true_eq, List.mem_map, List.mem_map] at h1
              show _ ↔ k ∈ nextL b (exL b st i)
              rw [mem_next fb, ← am k]
              constructor
              · intro hk
                obtain ⟨y, hy, e⟩ := h1.mp ⟨k, hk, rfl⟩
                have : y = k := by omega
                subst this
                exact hy
              · intro hk
                obtain ⟨y, hy, e⟩ := h1.mpr ⟨k, hk, rfl⟩
                have : y = k := by omega
                subst this
                exact hy
          subst ems
          refine ⟨c, t, F2, _, _, _, rfl, (((e5.put2 hp).put2 ht).at hF4 (by simp)), Fnd2, Fm2, by rw [upd_same, ← map_nV_int], e6.put2 ht⟩
    · rintro σ H' ⟨f, lv, F, y5, y6, y7, rfl, hF, Fnd, Fm, hL, e⟩
      have Flt : ∀ k ∈ F, k < b.length := fun k hk => by
        obtain ⟨j, _, h⟩ := (Fm k).mp hk
        exact exL_lt hs j k h
      have Fl := nodup_le Fnd Flt
      refine ⟨_, rfl, f, F.map (fun n : Nat => (n : Int)), rfl, .of (by rw [← map_nV_int]; exact hF), by rw [List.length_map]; omega, fun ns t perm rise ht => ?_⟩
      obtain ⟨ms, e1', e2', e3'⟩ := sorted_nats Fnd perm rise
      rw [e1']
      have : ms = endsL b st (min m 8) := srt_eq e3' (endsL_srt _ _ _) fun k => by rw [e2'.mem_iff, Fm, mem_ends fb hs]
      subst this
      exact q t _ upd_same (e.put2 ht) (e.free ht)
/-! ### the law's own ways back -/
theorem sc_law_win_back : FnScope ["book", "found", "state", "moves", "message", "to"] ["book"] (defScope s_law_win_back) := ⟨rfl, rfl, rfl, by decide +kernel, rfl, by decide +kernel, by decide +kernel⟩
/-- a list whose items are lists of so many things -/
def LnV (H : Hp) (v : V) (n : Nat) : Prop := ∃ (a : Addr) (xs : List V), v = .ref a ∧ H a = some (.lst xs) ∧ xs.length = n
theorem LnV.ext0 {H H' : Hp} {v : V} {n : Nat} (h : LnV H v n) (e : Ext [] H H') : LnV H' v n := by
  obtain ⟨a, xs, rfl, h1, h2⟩ := h
  exact ⟨a, xs, rfl, e.at h1 (by simp), h2⟩
def sp_law_win_back (K : PySem.W.Frag) : Sp := fun vs H Q _ => ∃ (v : V) (b : Book), vs = [v] ∧ BkV K H v b ∧ FormB b ∧ ∀ (t : Addr) (xs : List V) (H' : Hp), H' t = some (.lst xs) → Paired (LnV H') xs ((List.range b.length).map (backM b)) → Ext [] H H' → Q (.ref t) H'
theorem ok_law_win_back (T : Tx K mg) : FnOk P w K mg base CX0 2 T.law_win_back.f T.law_win_back.fd ["book"] (sp_law_win_back K) := by
  refine T.law_win_back.F.ok sc_law_win_back (fun vs H Q E h => ?_) (fun cdv A outer s H vs Q E hr h => ?_)
  · obtain ⟨v, b, rfl, _⟩ := h; rfl
  · obtain ⟨v, b, rfl, hb, fb, q⟩ := h
    obtain ⟨a, ls, rfl, ha, hls⟩ := id hb
    have llen := Paired.len hls
    have h8 := fb.eight
    refine ⟨_, (pss_cons (ps_set (i := 1) sc_law_win_back.nd rfl (.inl rfl) (pe_lst pa_nil))
      (pss_cons (ps_for PassesOwn.never rfl (pi_enumT (by rfl) T.n_enumerate (pa_cons (pv 0) pa_nil)) (pg_tup rfl (pgs_cons (pg_name (i := 2) sc_law_win_back.nd rfl (.inr rfl)) (pgs_cons (pg_name (i := 3) sc_law_win_back.nd rfl (.inl rfl)) pgs_nil)))
        (pss_one (ps_expr (pe_bm PySem.F.plainAttrs_list PySem.F.slot_list_append PySem.F.type_list_append mt_append (pv 1) (pa_cons (pe_lc (own := [("message", 4), ("to", 5)]) rfl sc_law_win_back.nd (pi_tup (pv 3)) (blkOk_by (own := [("message", 4), ("to", 5)]) (N := ["book", "found", "state", "moves", "message", "to"]) (sc := defScope s_law_win_back) (by decide +kernel)) (fun _ _ _ _ _ => (pg_tupK (n := 2) K rfl (pgs_cons (pg_name (i := 4) sc_law_win_back.nd rfl (.inl rfl)) (pgs_cons (pg_name (i := 5) sc_law_win_back.nd rfl (.inl rfl)) pgs_nil)))) (fun _ _ _ _ _ => pts_one (pt_mid (pt_cmpR (op_in_seqK K) (pv 2) (pe_call (ok_law_win_ends T) (hr.mono (by decide)) (by rfl) T.law_win_ends.g T.law_win_ends.F.kp T.law_win_ends.b .nil pass0 (pa_cons (pv 0) (pa_cons (pv 5) (pa_cons pe_int pa_nil)))) (by rfl)))) (fun _ _ _ _ _ => (pv 4))) pa_nil)))))
      (pss_one (ps_ret (pv 1))))), ?_⟩
    refine ⟨Nat.zero_le _, fun f hf => ?_⟩
    have e0 : Ext [] H (upd H f (.lst [])) := .new hf
    refine ⟨_, rfl, a, _, rfl, e0.tup Lsts.nil ha, ?_⟩
    refine for_it (walk_enumT (K := K) (a := a) (xs := ls)) (fun i σ H' => ∃ (xs : List V) (y2 y3 : Option V), σ = [some (.ref a), some (.ref f), y2, y3, none, none] ∧ H' f = some (.lst xs) ∧ Paired (fun v n => LnV H' v n ∧ v ≠ .ref f) xs (((List.range b.length).take i).map (backM b)) ∧ Ext [] H H') ⟨[], _, _, rfl, upd_same, by simp; exact .nil, e0⟩ (fun i σ H' _ ⟨_, _, _, _, _, _, e⟩ => e.tup Lsts.nil ha) ?_ ?_
    · rintro i v σ H1 H' hi ⟨xs, y2, y3, rfl, hF, hp, e1⟩ ⟨T', x, y, rfl, hT, rfl, hx, hy⟩
      cases hx
      have hib : i < b.length := by omega
      have e2 := e1.put2 (o := .tup [.int i, y]) hT
      have hF2 : upd H1 T' (.tup [.int i, y]) f = some (.lst xs) := by rw [upd_ne (ne_of_none hF hT)]; exact hF
      obtain ⟨u, hu, c, ps, rfl, hc, hps⟩ := Paired.get hls (mvs_lt hib)
      have hy : ls[i]? = some y := hy
      rw [hu] at hy
      have hy := Option.some.inj hy
      subst hy
      have plen := Paired.len hps
      have five := (fb.ok hib).few
      have e12 : Ext [] H1 (upd H1 T' (.tup [.int i, .ref c])) := .new hT
      refine ⟨T', _, rfl, .of upd_same, rfl, _, _, rfl, _, _, rfl, rfl, ?_⟩
      generalize upd H1 T' (.tup [.int i, .ref c]) = H2 at *
      refine ⟨_, rfl, .inl ⟨rfl, _, .of hF2⟩, ?_⟩
      refine ⟨_, rfl, c, rfl, ⟨_, (e2.tz Lsts.nil hc).sq⟩, fun D hD => ?_⟩
      refine lc_tup (K := K) (a := c) (xs := ps.map V.ref) (fun j H' => ∃ xs : List V, H' D = some (.lst xs) ∧ xs.length = (((mvs b i).take j).filter fun p => decide (i ∈ endsL b p.2 8)).length ∧ Ext [] H2 H') ⟨[], upd_same, rfl, .new hD⟩ (fun j H' _ ⟨_, _, _, e⟩ => ((e2.trans e).tz Lsts.nil hc).sq) ?_ ?_
      · rintro j v H' hv ⟨ys, hY, hyl, e3⟩
        obtain ⟨g, hg, rfl⟩ := map_at hv
        obtain ⟨p, hp, hcp⟩ := Paired.get' hps hg
        have hm := List.mem_of_getElem? hp
        have e4 := e2.trans e3
        refine ⟨g, _, rfl, hcp.ext0 e4, rfl, _, _, rfl, _, _, rfl, rfl, rfl, ?_⟩
        refine ⟨fun x H3 => x = decide (i ∈ endsL b p.2 8) ∧ Ext [] H' H3, ?_, ?_⟩
        · refine ⟨_, rfl, _, rfl, _, rfl, .ref a, b, p.2, 8, rfl, hb.ext0 e4, fb, fb.to hm, fun t H3 ht e5 _ => ?_⟩
          exact ⟨t, _, rfl, .inl (.of ht), rfl, flat_nV _, _, rfl, inV_nV i _, e5⟩
        · rintro x H3 ⟨rfl, e5⟩
          have h3 := e5.at hY (by simp)
          refine ifB (fun hf => ?_) (fun hf => ?_)
          · refine ⟨_, rfl, _, h3, ?_, ys ++ [.int p.1], upd_same, ?_, (e3.trans e5).put hD⟩
            · rw [hyl]
              refine small1000 (Nat.le_trans (List.length_filter_le _ _) ?_)
              rw [List.length_take]
              omega
            · rw [List.length_append, hyl, filter_take _ hp, hf]
              simp
          · refine ⟨ys, h3, ?_, e3.trans e5⟩
            rw [hyl, filter_take _ hp, hf]
            simp
      · rintro H' ⟨ys, hY, hyl, e3⟩
        rw [List.length_map, plen, List.take_length] at hyl
        have hF3 := e3.at hF2 (by simp)
        have hp3 : Paired (fun v n => LnV H' v n ∧ v ≠ .ref f) xs (((List.range b.length).take i).map (backM b)) := Paired.imp hp fun _ _ z => ⟨z.1.ext0 (e12.trans e3), z.2⟩
        have e13 := e12.trans e3
        refine ⟨f, _, _, rfl, rfl, hF3, ?_, xs ++ [.ref D], _, _, rfl, upd_same, ?_, (e2.trans e3).put hf⟩
        · rw [Paired.len hp, List.length_map, List.length_take, List.length_range]
          exact small1000 (by omega)
        · have fD : f ≠ D := ne_of_none hF2 hD
          rw [List.take_add_one, List.getElem?_range hib, List.map_append]
          refine Paired.snoc ⟨⟨D, ys, rfl, by rw [upd_ne fD.symm]; exact hY, hyl⟩, fun z => fD (V.ref.inj z).symm⟩ (Paired.imp hp3 fun v n z => ⟨?_, z.2⟩)
          obtain ⟨⟨g, zs, rfl, h1, h2⟩, h3⟩ := z
          exact ⟨g, zs, rfl, by rw [upd_ne (fun y => h3 (by rw [y]))]; exact h1, h2⟩
    · rintro σ H' ⟨xs, y2, y3, rfl, hF, hp, e⟩
      refine ⟨_, rfl, q f xs H' hF ?_ e⟩
      rw [llen, List.take_of_length_le (by rw [List.length_range]; exact Nat.le_refl _)] at hp
      exact Paired.imp hp fun _ _ z => z.1
/-! ### the least numbers of ways back -/
def firstM (b : Book) (s t : Nat) : List Nat := ((List.range' 1 b.length).filter fun m => decide (s ∈ endsL b t m)).take 1
def backsM (b : Book) (s : Nat) (st : State) : List Nat := st.flatMap fun p => firstM b s p.2
theorem backs_len (b : Book) (s : Nat) : ∀ st : State, (backsM b s st).length ≤ st.length
  | [] => Nat.le_refl _
  | p :: r => by
    have := backs_len b s r
    have f1 : (firstM b s p.2).length ≤ 1 := by unfold firstM; rw [List.length_take]; omega
    show ((firstM b s p.2) ++ backsM b s r).length ≤ r.length + 1
    rw [List.length_append]
    omega
theorem cut1 (xs : List V) : cutV xs none (some 1) = xs.take 1 := by
  unfold cutV
  cases xs with
  | nil => simp
  | cons x r => simp [HT.sIx]
theorem sorted_natsD {F : List Nat} {ns : List Int} (p : ns.Perm (F.map fun n : Nat => (n : Int))) (r : ns.Pairwise (· ≤ ·)) : ∃ ms : List Nat, ns.map V.int = ms.map nV ∧ ms.Perm F ∧ ms.Pairwise (· ≤ ·) := by
  have nn : ∀ z ∈ ns, ∃ n : Nat, z = (n : Int) := fun z hz => by
    obtain ⟨n, _, rfl⟩ := List.mem_map.mp (p.mem_iff.mp hz)
    exact ⟨n, rfl⟩
  refine ⟨ns.map Int.toNat, ?_, ?_, ?_⟩
  · rw [List.map_map]
    refine List.map_congr_left fun z hz => ?_
    obtain ⟨n, rfl⟩ := nn z hz
    rfl
  · have q := p.map Int.toNat
    rw [List.map_map] at q
    have e : F.map (Int.toNat ∘ fun n : Nat => (n : Int)) = F := by
      conv => rhs; rw [← List.map_id F]
      exact List.map_congr_left fun z _ => rfl
    rw [e] at q
    exact q
  · rw [List.pairwise_map]
    refine List.Pairwise.imp_of_mem (fun {a b} ha hb h => ?_) r
    obtain ⟨n, rfl⟩ := nn a ha
    obtain ⟨m, rfl⟩ := nn b hb
    simp
    omega
end
end Nv
set_option linter.all false
namespace Nv
/-! ### what lasts -/
theorem setAll_get : ∀ (L : List Nat) (r : List (Option Int)) (x : Int) (k : Nat), (setAll r L x)[k]? = if k ∈ L ∧ k < r.length then some (some x) else r[k]?
  | [], r, x, k => by simp [setAll]
  | f :: L, r, x, k => by
    show (setAll (r.set f (some x)) L x)[k]? = _
    rw [setAll_get L, List.length_set]
    by_cases h1 : k < r.length
    · by_cases h2 : k ∈ L
      · simp [h1, h2]
      · by_cases h3 : k = f
        · subst h3
          simp [h1, h2]
        · have : ¬ f = k := fun z => h3 z.symm
          simp [h1, h2, h3, this]
    · have : r[k]? = none := List.getElem?_eq_none (by omega)
      simp [h1, this]
theorem rk_sub {b : Book} {W t : Nat} {st fin : List Nat} {r res : List (Option Int)} (h : Rk b W t st r res fin) : ∀ k ∈ fin, k ∈ st := by
  induction h with
  | stop _ => exact fun k hk => hk
  | go _ _ ih => exact fun k hk => (List.mem_filter.mp (ih k hk)).1
theorem rk_stable {b : Book} {W t : Nat} {st fin : List Nat} {r res : List (Option Int)} (h : Rk b W t st r res fin) : ∀ s ∈ fin, 2 ≤ (leadM b W s fin).length := by
  induction h with
  | @stop t st r e =>
    intro s hs
    by_cases h : 2 ≤ (leadM b W s st).length
    · exact h
    · exfalso
      have : s ∈ fallM b W st := List.mem_filter.mpr ⟨hs, decide_eq_true (Nat.lt_of_not_le h)⟩
      rw [e] at this
      cases this
  | go _ _ ih => exact ih
theorem rk_stay {b : Book} {W t : Nat} {st fin : List Nat} {r res : List (Option Int)} (h : Rk b W t st r res fin) {s : Nat} (hs : s ∈ st) (two : ∀ goals : List Nat, s ∈ goals → 2 ≤ (leadM b W s goals).length) : s ∈ fin := by
  induction h with
  | stop _ => exact hs
  | @go t st fin r res _ _ ih =>
    refine ih (List.mem_filter.mpr ⟨hs, ?_⟩)
    have : s ∉ fallM b W st := fun z => by
      have := of_decide_eq_true (List.mem_filter.mp z).2
      have := two st hs
      omega
    rw [decide_eq_false this]
    rfl
theorem rk_fin {b : Book} {W t : Nat} {st fin : List Nat} {r res : List (Option Int)} (h : Rk b W t st r res fin) : (∀ k ∈ st, k < r.length) → (∀ k, k ∉ st → r[k]? ≠ some (some (-1))) → ∀ k, res[k]? = some (some (-1)) ↔ k ∈ fin := by
  induction h with
  | @stop t st r _ =>
    intro h1 h2 k
    rw [setAll_get]
    by_cases hk : k ∈ st
    · rw [if_pos ⟨hk, h1 k hk⟩]
      exact ⟨fun _ => hk, fun _ => rfl⟩
    · rw [if_neg (fun z => hk z.1)]
      exact ⟨fun z => absurd z (h2 k hk), fun z => absurd z hk⟩
  | @go t st fin r res _ _ ih =>
    intro h1 h2
    refine ih (fun k hk => by rw [setAll_len]; exact h1 k (List.mem_filter.mp hk).1) fun k hk => ?_
    rw [setAll_get]
    by_cases hf : k ∈ fallM b W st
    · have := h1 k (List.mem_filter.mp hf).1
      rw [if_pos ⟨hf, this⟩]
      intro z
      have := Option.some.inj (Option.some.inj z)
      omega
    · rw [if_neg (fun z => hf z.1)]
      refine h2 k fun z => hk (List.mem_filter.mpr ⟨z, ?_⟩)
      rw [decide_eq_false hf]
      rfl
theorem forks_lt {b : Book} {k : Nat} (h : k ∈ forksM b) : k < b.length := (mem_filt.mp h).1
theorem last_iff {b : Book} {W : Nat} {res : List (Option Int)} {fin : List Nat} (h : LastM b W res fin) (k : Nat) : k ∈ lastL b res ↔ k ∈ fin := by
  have key := rk_fin h (fun k hk => by rw [List.length_replicate]; exact forks_lt hk) (fun k _ z => by
    by_cases hk : k < b.length
    · rw [List.getElem?_replicate, if_pos hk] at z
      cases z
    · rw [List.getElem?_replicate, if_neg hk] at z
      cases z) k
  unfold lastL
  rw [mem_filt, decide_eq_true_eq, key]
  exact ⟨fun z => z.2, fun z => ⟨forks_lt (rk_sub h k z), z⟩⟩
theorem last_nil {b : Book} {W : Nat} {res : List (Option Int)} {fin : List Nat} (h : LastM b W res fin) : lastL b res = [] ↔ fin = [] := by
  constructor
  · intro e
    rw [List.eq_nil_iff_forall_not_mem]
    exact fun k hk => by have := (last_iff h k).mpr hk; rw [e] at this; cases this
  · intro e
    rw [List.eq_nil_iff_forall_not_mem]
    exact fun k hk => by have := (last_iff h k).mp hk; rw [e] at this; cases this
theorem least_two {b : Book} {res : List (Option Int)} (h : lastL b res = []) : leastM b res ≤ 2 := by
  unfold leastM
  split
  · omega
  · split
    · omega
    · simp [h]
theorem least_three {b : Book} {res : List (Option Int)} (h : leastM b res = 3) : lastL b res ≠ [] := fun e => by
  have := least_two e
  omega
/-! ### a stable set has a knot -/
theorem filt_le {α : Type} {l : List α} {f g : α → Bool} (h : ∀ x ∈ l, f x = true → g x = true) : (l.filter f).length ≤ (l.filter g).length := by
  rw [← List.countP_eq_length_filter, ← List.countP_eq_length_filter]
  exact List.countP_mono_left h
theorem led_rt {b : Book} (fb : FormB b) {t m k : Nat} (ht : t < b.length) (h : k ∈ ledL b t m) : Rt b t k := by
  unfold ledL at h
  split at h
  · cases h
  · exact wi_rt fb ht _ _ h
theorem clo_le {b : Book} (fb : FormB b) {s x : Nat} (hs : s < b.length) (hx : x < b.length) (h1 : Rt b s x) (h2 : ¬ Rt b x s) : (wiL b x (b.length - 1)).length < (wiL b s (b.length - 1)).length := by
  have nd : (s :: wiL b x (b.length - 1)).Nodup := List.nodup_cons.mpr ⟨fun z => h2 (wi_rt fb hx _ _ z), srt_nodup (wiL_srt _ _ _)⟩
  have := List.Nodup.length_le_of_subset nd (l₂ := wiL b s (b.length - 1)) fun z hz => by
    rcases List.mem_cons.mp hz with hz | hz
    · rw [hz]; exact rt_wi fb hs (.refl s)
    · exact rt_wi fb hs (h1.trans (wi_rt fb hx _ _ hz))
  rw [List.length_cons] at this
  omega
theorem bottom {b : Book} (fb : FormB b) {S : List Nat} (hS : ∀ k ∈ S, k < b.length) : ∀ (m s : Nat), s ∈ S → (wiL b s (b.length - 1)).length ≤ m → ∃ s' ∈ S, ∀ x ∈ S, Rt b s' x → Rt b x s' := by
  intro m
  induction m with
  | zero =>
    intro s hs h
    have := rt_wi fb (hS s hs) (.refl s)
    have := List.length_pos_of_mem this
    omega
  | succ m ih =>
    intro s hs h
    by_cases all : ∀ x ∈ S, Rt b s x → Rt b x s
    · exact ⟨s, hs, all⟩
    · obtain ⟨x, hx⟩ := Classical.not_forall.mp all
      obtain ⟨hxS, hx⟩ := Classical.not_imp.mp hx
      obtain ⟨h1, h2⟩ := Classical.not_imp.mp hx
      have := clo_le fb (hS s hs) (hS x hxS) h1 h2
      exact ih x hxS (by omega)
theorem mem_reach {b : Book} (fb : FormB b) {t k : Nat} (ht : t < b.length) : k ∈ reachL b t b.length ↔ Rt b t k := by
  unfold reachL
  exact mem_wi fb ht (by omega)
theorem stable_knot {b : Book} (fb : FormB b) {W : Nat} {S : List Nat} (hS : ∀ k ∈ S, k < b.length) (ne : S ≠ []) (st : ∀ s ∈ S, 2 ≤ (leadM b W s S).length) : knotsM b ≠ [] := by
  obtain ⟨s0, h0⟩ := List.exists_mem_of_ne_nil _ ne
  obtain ⟨s, hs, hb⟩ := bottom fb hS _ s0 h0 (Nat.le_refl _)
  have two := st s hs
  have : s ∈ knotsM b := by
    refine mem_filt.mpr ⟨hS s hs, decide_eq_true ?_⟩
    refine Nat.lt_of_lt_of_le two ?_
    unfold leadM waysM
    rw [List.length_map]
    refine filt_le fun p hp h => ?_
    obtain ⟨k, hk, hkS⟩ := List.any_eq_true.mp h
    have hkS := of_decide_eq_true hkS
    have hp2 := fb.to hp
    have r := led_rt fb hp2 hk
    exact decide_eq_true ((mem_reach fb hp2).mpr (r.trans (hb k hkS ((Rt.one hp).trans r))))
  exact List.ne_nil_of_mem this
theorem no_knots {b : Book} (fb : FormB b) (h : knotsM b = []) {W : Nat} {res : List (Option Int)} {fin : List Nat} (hL : LastM b W res fin) : lastL b res = [] := by
  rw [last_nil hL]
  by_cases e : fin = []
  · exact e
  · exact absurd h (stable_knot fb (fun k hk => forks_lt (rk_sub hL k hk)) e (rk_stable hL))
theorem win_one {b : Book} {res : List (Option Int)} {fin : List Nat} (hL : LastM b 1 res fin) : lastL b res = [] := by
  rw [last_nil hL, List.eq_nil_iff_forall_not_mem]
  intro k hk
  have := rk_stable hL k hk
  have e : leadM b 1 k fin = [] := by
    unfold leadM
    have : (mvs b k).filter (fun p => (ledL b p.2 (1 - 1)).any fun k => decide (k ∈ fin)) = [] := List.filter_eq_nil_iff.mpr fun p _ => by simp [ledL]
    rw [this]
    rfl
  rw [e] at this
  simp at this
/-! ### a knot lasts for the window behind its second shortest way back -/
theorem ends_mono {b : Book} (fb : FormB b) {t : Nat} (ht : t < b.length) {m n k : Nat} (h : m ≤ n) (hk : k ∈ endsL b t m) : k ∈ endsL b t n := by
  obtain ⟨j, hj, e⟩ := (mem_ends fb ht).mp hk
  exact (mem_ends fb ht).mpr ⟨j, by omega, e⟩
theorem first_mem {b : Book} {s t k : Nat} (h : k ∈ firstM b s t) : 1 ≤ k ∧ k ≤ b.length ∧ s ∈ endsL b t k := by
  unfold firstM at h
  have h := List.mem_filter.mp (List.mem_of_mem_take h)
  have h1 := List.mem_range'_1.mp h.1
  exact ⟨h1.1, by omega, of_decide_eq_true h.2⟩
theorem first_some {b : Book} (fb : FormB b) {s t : Nat} (ht : t < b.length) (h : Rt b t s) : (firstM b s t).length = 1 := by
  have h1 := fb.one
  have hm : b.length ∈ (List.range' 1 b.length).filter fun m => decide (s ∈ endsL b t m) := by
    refine List.mem_filter.mpr ⟨List.mem_range'_1.mpr ⟨h1, by omega⟩, decide_eq_true ?_⟩
    unfold endsL
    rw [if_neg (by omega)]
    exact rt_wi fb ht h
  have := List.length_pos_of_mem hm
  unfold firstM
  rw [List.length_take]
  omega
theorem backs_ge {b : Book} (fb : FormB b) (s : Nat) : ∀ st : State, (∀ p ∈ st, p.2 < b.length) → (st.filter fun p => decide (s ∈ reachL b p.2 b.length)).length ≤ (backsM b s st).length
  | [], _ => Nat.le_refl _
  | p :: r, h => by
    have ih := backs_ge fb s r fun q hq => h q (List.mem_cons_of_mem _ hq)
    have hp := h p (by simp)
    show _ ≤ ((firstM b s p.2) ++ backsM b s r).length
    rw [List.length_append, List.filter_cons]
    by_cases e : s ∈ reachL b p.2 b.length
    · have := first_some fb hp ((mem_reach fb hp).mp e)
      rw [if_pos (decide_eq_true e), List.length_cons]
      omega
    · rw [if_neg (by simpa using e)]
      omega
theorem backs_le {b : Book} (fb : FormB b) (s m : Nat) : ∀ st : State, (∀ p ∈ st, p.2 < b.length) → (backsM b s st).countP (fun k => decide (k ≤ m)) ≤ (st.filter fun p => decide (s ∈ endsL b p.2 m)).length
  | [], _ => Nat.le_refl _
  | p :: r, h => by
    have ih := backs_le fb s m r fun q hq => h q (List.mem_cons_of_mem _ hq)
    have hp := h p (by simp)
    show ((firstM b s p.2) ++ backsM b s r).countP _ ≤ _
    rw [List.countP_append, List.filter_cons]
    by_cases e : s ∈ endsL b p.2 m
    · rw [if_pos (decide_eq_true e), List.length_cons]
      have : (firstM b s p.2).countP (fun k => decide (k ≤ m)) ≤ 1 := Nat.le_trans List.countP_le_length (by unfold firstM; rw [List.length_take]; omega)
      omega
    · rw [if_neg (by simpa using e)]
      have : (firstM b s p.2).countP (fun k => decide (k ≤ m)) = 0 := by
        rw [List.countP_eq_zero]
        intro k hk z
        have z := of_decide_eq_true z
        exact e (ends_mono fb hp z (first_mem hk).2.2)
      omega
theorem backs_mem {b : Book} {s k : Nat} {st : State} (h : k ∈ backsM b s st) : 1 ≤ k ∧ k ≤ b.length := by
  obtain ⟨p, _, hp⟩ := List.mem_flatMap.mp h
  have := first_mem hp
  exact ⟨this.1, this.2.1⟩
theorem knot_win {b : Book} (fb : FormB b) {s : Nat} (hs : s ∈ knotsM b) {ms : List Nat} (hp : ms.Perm (backsM b s (mvs b s))) (hr : ms.Pairwise (· ≤ ·)) :
    ∃ m, ms[1]? = some m ∧ 1 ≤ m ∧ m ≤ b.length ∧ ∀ goals : List Nat, s ∈ goals → 2 ≤ (leadM b (m + 1) s goals).length := by
  have to : ∀ p ∈ mvs b s, p.2 < b.length := fun p hp => fb.to hp
  have hk := of_decide_eq_true (mem_filt.mp hs).2
  have hl : 2 ≤ ms.length := by
    rw [hp.length_eq]
    exact Nat.le_trans hk (backs_ge fb s _ to)
  match ms, hl, hp, hr with
  | x :: y :: r, _, hp, hr =>
    have hxy : x ≤ y := (List.pairwise_cons.mp hr).1 y (by simp)
    have hy := backs_mem (hp.mem_iff.mp (show y ∈ x :: y :: r by simp))
    refine ⟨y, rfl, hy.1, hy.2, fun goals hg => ?_⟩
    have c2 : 2 ≤ (x :: y :: r).countP (fun k => decide (k ≤ y)) := by
      rw [List.countP_cons, List.countP_cons]
      simp [hxy]
    rw [hp.countP_eq] at c2
    have := backs_le fb s y _ to
    refine Nat.le_trans (Nat.le_trans c2 this) ?_
    unfold leadM
    rw [List.length_map]
    refine filt_le fun p hp h => ?_
    have h := of_decide_eq_true h
    refine List.any_eq_true.mpr ⟨s, ?_, decide_eq_true hg⟩
    unfold endsL at h
    rw [if_neg (by omega)] at h
    unfold ledL reachL
    rw [if_neg (by omega)]
    have : min (y + 1 - 1 - 1) b.length = y - 1 := by omega
    rw [this]
    exact h
theorem knot_fork {b : Book} {s : Nat} (hs : s ∈ knotsM b) : s ∈ forksM b ∧ s < b.length := by
  have h := mem_filt.mp hs
  refine ⟨mem_filt.mpr ⟨h.1, decide_eq_true ?_⟩, h.1⟩
  have := of_decide_eq_true h.2
  unfold waysM at this
  exact Nat.lt_of_lt_of_le this (List.length_filter_le _ _)
theorem rch_zero {b : Book} (e : mvs b 0 = []) {s : Nat} (h : Rch b s) : s = 0 := by
  induction h with
  | zero => rfl
  | step _ hp ih =>
    rw [ih, e] at hp
    cases hp
theorem knot_three {b : Book} (ok : OkB b) {s m : Nat} (hs : s ∈ knotsM b) (two : ∀ goals : List Nat, s ∈ goals → 2 ≤ (leadM b (m + 1) s goals).length) {res : List (Option Int)} {fin : List Nat} (hL : LastM b (m + 1) res fin) :
    s ∈ lastL b res ∧ leastM b res = 3 := by
  obtain ⟨hf, hlt⟩ := knot_fork hs
  have h1 : s ∈ lastL b res := (last_iff hL s).mpr (rk_stay hL hf two)
  refine ⟨h1, ?_⟩
  unfold leastM
  rw [if_neg, if_neg (List.ne_nil_of_mem hf), if_neg (List.ne_nil_of_mem h1)]
  intro e
  have := rch_zero e (ok.reach s hlt)
  subst this
  have := of_decide_eq_true (mem_filt.mp hf).2
  rw [e] at this
  simp at this
/-- the first window, where there are knots -/
theorem from_knot {b : Book} (ok : OkB b) {o : Option Nat} (h : FromW b o) {s : Nat} (hs : s ∈ knotsM b) : ∃ W, o = some W ∧ 2 ≤ W ∧ W ≤ 9 := by
  have fb := ok.toFormB
  obtain ⟨ms, hp, hr⟩ : ∃ ms : List Nat, ms.Perm (backsM b s (mvs b s)) ∧ ms.Pairwise (· ≤ ·) :=
    ⟨(backsM b s (mvs b s)).mergeSort, List.mergeSort_perm _ _, by
      have := List.pairwise_mergeSort (le := fun a b : Nat => decide (a ≤ b)) (by simp; omega) (by simp; omega) (backsM b s (mvs b s))
      exact List.Pairwise.imp (fun h => of_decide_eq_true h) this⟩
  obtain ⟨m, _, m1, m2, two⟩ := knot_win fb hs hp hr
  have h8 := fb.eight
  cases o with
  | none =>
    exfalso
    obtain ⟨res, fin, hL⟩ := rk_ex b (m + 1) _ 0 (forksM b) (List.replicate b.length none) (Nat.le_refl _)
    exact h (m + 1) (by omega) (by omega) res fin hL (knot_three ok hs two hL).2
  | some W =>
    obtain ⟨w1, w9, ⟨res, fin, hL, e⟩, _⟩ := h
    refine ⟨W, rfl, ?_, w9⟩
    by_cases hW : W = 1
    · subst hW
      exact absurd (win_one hL) (least_three e)
    · omega
theorem from_le {b : Book} {W V : Nat} (h : FromW b (some W)) (hV : 1 ≤ V) {res : List (Option Int)} {fin : List Nat} (hL : LastM b V res fin) (e : leastM b res = 3) : W ≤ V := by
  by_cases hlt : W ≤ V
  · exact hlt
  · exact absurd e (h.2.2.2 V hV (by omega) res fin hL)
theorem from_none {b : Book} (fb : FormB b) (h : knotsM b = []) {o : Option Nat} (hw : FromW b o) : o = none := by
  cases o with
  | none => rfl
  | some W =>
    obtain ⟨_, _, ⟨res, fin, hL, e⟩, _⟩ := hw
    exact absurd (no_knots fb h hL) (least_three e)
end Nv
set_option linter.all false
namespace Nv
/-! ### windows that grow -/
theorem lead_goals {b : Book} {W s : Nat} {S st : List Nat} (h : ∀ k ∈ S, k ∈ st) : (leadM b W s S).length ≤ (leadM b W s st).length := by
  unfold leadM
  rw [List.length_map, List.length_map]
  refine filt_le fun p _ e => ?_
  obtain ⟨k, hk, e⟩ := List.any_eq_true.mp e
  exact List.any_eq_true.mpr ⟨k, hk, decide_eq_true (h k (of_decide_eq_true e))⟩
theorem rk_greatest {b : Book} {W t : Nat} {st fin S : List Nat} {r res : List (Option Int)} (h : Rk b W t st r res fin) (two : ∀ s ∈ S, 2 ≤ (leadM b W s S).length) : (∀ k ∈ S, k ∈ st) → ∀ k ∈ S, k ∈ fin := by
  induction h with
  | stop _ => exact fun h => h
  | @go t st fin r res _ _ ih =>
    intro h
    refine ih fun k hk => List.mem_filter.mpr ⟨h k hk, ?_⟩
    have : k ∉ fallM b W st := fun z => by
      have := of_decide_eq_true (List.mem_filter.mp z).2
      have := two k hk
      have := lead_goals (b := b) (W := W) (s := k) h
      omega
    rw [decide_eq_false this]
    rfl
theorem led_mono {b : Book} (fb : FormB b) {t m n k : Nat} (ht : t < b.length) (h : m ≤ n) (hk : k ∈ ledL b t m) : k ∈ ledL b t n := by
  unfold ledL at hk ⊢
  split at hk
  · cases hk
  · rw [if_neg (by omega)]
    exact wi_mono fb ht (by omega) hk
theorem lead_mono {b : Book} (fb : FormB b) {W V s : Nat} {S : List Nat} (h : W ≤ V) : (leadM b W s S).length ≤ (leadM b V s S).length := by
  unfold leadM
  rw [List.length_map, List.length_map]
  refine filt_le fun p hp e => ?_
  obtain ⟨k, hk, e⟩ := List.any_eq_true.mp e
  exact List.any_eq_true.mpr ⟨k, led_mono fb (fb.to hp) (by omega) hk, e⟩
theorem last_mono {b : Book} (fb : FormB b) {W V : Nat} (h : W ≤ V) {res res' : List (Option Int)} {fin fin' : List Nat} (hW : LastM b W res fin) (hV : LastM b V res' fin') : ∀ k ∈ lastL b res, k ∈ lastL b res' := by
  intro k hk
  rw [last_iff hV]
  rw [last_iff hW] at hk
  exact rk_greatest hV (fun s hs => Nat.le_trans (rk_stable hW s hs) (lead_mono fb h)) (rk_sub hW) k hk
theorem led_full {b : Book} (fb : FormB b) {t m : Nat} (ht : t < b.length) (h : b.length ≤ m) : ledL b t m = ledL b t b.length := by
  have h1 := fb.one
  unfold ledL reachL
  rw [if_neg (by omega), if_neg (by omega), wi_full fb ht _ (by omega), wi_full fb ht (min (b.length - 1) b.length) (by omega)]
theorem lead_full {b : Book} (fb : FormB b) {W : Nat} (h : b.length + 1 ≤ W) (s : Nat) (S : List Nat) : leadM b W s S = leadM b (b.length + 1) s S := by
  unfold leadM
  congr 1
  refine List.filter_congr fun p hp => ?_
  rw [led_full fb (fb.to hp) (by omega), led_full fb (m := b.length + 1 - 1) (fb.to hp) (by omega)]
theorem fall_cong {b : Book} {W V : Nat} (e : ∀ s S, leadM b W s S = leadM b V s S) (st : List Nat) : fallM b W st = fallM b V st := by
  unfold fallM
  exact List.filter_congr fun f _ => by rw [e]
theorem rest_cong {b : Book} {W V : Nat} (e : ∀ s S, leadM b W s S = leadM b V s S) (st : List Nat) : restM b W st = restM b V st := by
  unfold restM
  rw [fall_cong e]
theorem rk_cong {b : Book} {W V : Nat} (e : ∀ s S, leadM b W s S = leadM b V s S) {t : Nat} {st fin : List Nat} {r res : List (Option Int)} (h : Rk b W t st r res fin) : Rk b V t st r res fin := by
  induction h with
  | stop h => exact .stop (by rw [← fall_cong e]; exact h)
  | @go t st fin r res h _ ih =>
    refine .go (by rw [← fall_cong e]; exact h) ?_
    rw [← fall_cong e, ← rest_cong e]
    exact ih
theorem last_full {b : Book} (fb : FormB b) {W : Nat} (h : b.length + 1 ≤ W) {res : List (Option Int)} {fin : List Nat} (hL : LastM b W res fin) : LastM b (b.length + 1) res fin := rk_cong (lead_full fb h) hL
theorem last_fun {b : Book} {W : Nat} {res res' : List (Option Int)} {fin fin' : List Nat} (h : LastM b W res fin) (h' : LastM b W res' fin') : res = res' := (rk_fun h h').1
/-! ### which ranks come -/
theorem rk_none {b : Book} {W n : Nat} {F : List Nat} {t : Nat} {st fin : List Nat} {r res : List (Option Int)} (h : Rk b W t st r res fin) : r.length = n → (∀ k ∈ st, k ∈ F) → (∀ k, r[k]? = some none ↔ k < n ∧ (k ∈ st ∨ k ∉ F)) → ∀ k, res[k]? = some none ↔ k < n ∧ k ∉ F := by
  induction h with
  | @stop t st r _ =>
    intro hn hF hr k
    rw [setAll_get]
    by_cases hk : k ∈ st ∧ k < r.length
    · rw [if_pos hk]
      exact ⟨fun z => (nomatch z), fun z => absurd (hF k hk.1) z.2⟩
    · rw [if_neg hk, hr k]
      constructor
      · rintro ⟨h1, h2 | h2⟩
        · exact absurd ⟨h2, by omega⟩ hk
        · exact ⟨h1, h2⟩
      · exact fun z => ⟨z.1, .inr z.2⟩
  | @go t st fin r res _ _ ih =>
    intro hn hF hr
    refine ih (by rw [setAll_len]; exact hn) (fun k hk => hF k (List.mem_filter.mp hk).1) fun k => ?_
    rw [setAll_get]
    by_cases hk : k ∈ fallM b W st ∧ k < r.length
    · rw [if_pos hk]
      refine ⟨fun z => (nomatch z), ?_⟩
      rintro ⟨_, h2 | h2⟩
      · have := (List.mem_filter.mp h2).2
        rw [decide_eq_true hk.1] at this
        cases this
      · exact absurd (hF k (List.mem_filter.mp hk.1).1) h2
    · rw [if_neg hk, hr k]
      constructor
      · rintro ⟨h1, h2 | h2⟩
        · refine ⟨h1, .inl (List.mem_filter.mpr ⟨h2, ?_⟩)⟩
          rw [decide_eq_false (fun z => hk ⟨z, by omega⟩)]
          rfl
        · exact ⟨h1, .inr h2⟩
      · rintro ⟨h1, h2 | h2⟩
        · exact ⟨h1, .inl (List.mem_filter.mp h2).1⟩
        · exact ⟨h1, .inr h2⟩
theorem rk_vals {b : Book} {W : Nat} {t : Nat} {st fin : List Nat} {r res : List (Option Int)} (h : Rk b W t st r res fin) : (∀ k ∈ st, r[k]? = some none) → (∀ v : Nat, (∃ k : Nat, r[k]? = some (some (v : Int))) ↔ v < t) → ∃ m, ∀ v : Nat, (∃ k : Nat, res[k]? = some (some (v : Int))) ↔ v < m := by
  induction h with
  | @stop t st r _ =>
    intro hs hv
    refine ⟨t, fun v => ?_⟩
    rw [← hv v]
    constructor
    · rintro ⟨k, hk⟩
      rw [setAll_get] at hk
      split at hk
      · have := Option.some.inj (Option.some.inj hk)
        omega
      · exact ⟨k, hk⟩
    · rintro ⟨k, hk⟩
      refine ⟨k, ?_⟩
      rw [setAll_get, if_neg]
      · exact hk
      · rintro ⟨h1, _⟩
        rw [hs k h1] at hk
        cases hk
  | @go t st fin r res hne _ ih =>
    intro hs hv
    refine ih (fun k hk => ?_) fun v => ?_
    · obtain ⟨h1, h2⟩ := List.mem_filter.mp hk
      rw [setAll_get, if_neg]
      · exact hs k h1
      · rintro ⟨h3, _⟩
        rw [decide_eq_true h3] at h2
        cases h2
    · constructor
      · rintro ⟨k, hk⟩
        rw [setAll_get] at hk
        split at hk
        · have := Option.some.inj (Option.some.inj hk)
          omega
        · have := (hv v).mp ⟨k, hk⟩
          omega
      · intro h
        by_cases hvt : v = t
        · obtain ⟨k, hk⟩ := List.exists_mem_of_ne_nil _ hne
          have hk1 := hs k (List.mem_filter.mp hk).1
          refine ⟨k, ?_⟩
          rw [setAll_get, if_pos ⟨hk, (List.getElem?_eq_some_iff.mp hk1).1⟩, hvt]
        · obtain ⟨k, hk⟩ := (hv v).mpr (by omega)
          refine ⟨k, ?_⟩
          rw [setAll_get, if_neg]
          · exact hk
          · rintro ⟨h1, _⟩
            rw [hs k (List.mem_filter.mp h1).1] at hk
            cases hk
theorem rep_none {n k : Nat} : (List.replicate n (none : Option Int))[k]? = some none ↔ k < n := by
  rw [List.getElem?_replicate]
  split <;> simp [*]
theorem last_none {b : Book} {W : Nat} {res : List (Option Int)} {fin : List Nat} (h : LastM b W res fin) (k : Nat) : res[k]? = some none ↔ k < b.length ∧ k ∉ forksM b :=
  rk_none h List.length_replicate (fun k hk => hk) (fun k => by
    rw [rep_none]
    exact ⟨fun z => ⟨z, by by_cases h : k ∈ forksM b; exact .inl h; exact .inr h⟩, fun z => z.1⟩) k
theorem last_vals {b : Book} {W : Nat} {res : List (Option Int)} {fin : List Nat} (h : LastM b W res fin) : ∃ m, ∀ v : Nat, (∃ k : Nat, res[k]? = some (some (v : Int))) ↔ v < m :=
  by
    refine rk_vals h (fun k hk => rep_none.mpr (forks_lt hk)) fun v => ?_
    constructor
    · rintro ⟨k, hk⟩
      rw [List.getElem?_replicate] at hk
      split at hk <;> cases hk
    · exact fun z => absurd z (Nat.not_lt_zero v)
/-! ### three wires from the first window on -/
theorem three_iff {b : Book} {W : Nat} {res : List (Option Int)} {fin : List Nat} (h : LastM b W res fin) : leastM b res = 3 ↔ mvs b 0 ≠ [] ∧ lastL b res ≠ [] := by
  unfold leastM
  constructor
  · intro e
    split at e
    · omega
    · rename_i h1
      split at e
      · omega
      · split at e
        · omega
        · rename_i h2
          exact ⟨h1, h2⟩
  · rintro ⟨h1, h2⟩
    obtain ⟨k, hk⟩ := List.exists_mem_of_ne_nil _ h2
    have : forksM b ≠ [] := List.ne_nil_of_mem (rk_sub h k ((last_iff h k).mp hk))
    rw [if_neg h1, if_neg this, if_neg h2]
theorem three_mono {b : Book} (fb : FormB b) {W V : Nat} (h : W ≤ V) {res res' : List (Option Int)} {fin fin' : List Nat} (hW : LastM b W res fin) (hV : LastM b V res' fin') (e : leastM b res = 3) : leastM b res' = 3 := by
  obtain ⟨h1, h2⟩ := (three_iff hW).mp e
  obtain ⟨k, hk⟩ := List.exists_mem_of_ne_nil _ h2
  exact (three_iff hV).mpr ⟨h1, List.ne_nil_of_mem (last_mono fb h hW hV k hk)⟩
theorem last_ex (b : Book) (W : Nat) : ∃ res fin, LastM b W res fin := rk_ex b W _ 0 (forksM b) (List.replicate b.length none) (Nat.le_refl _)
theorem from_iff {b : Book} (fb : FormB b) {o : Option Nat} (ho : FromW b o) {W : Nat} (h1 : 1 ≤ W) {res : List (Option Int)} {fin : List Nat} (hW : LastM b W res fin) : leastM b res = 3 ↔ ∃ V, o = some V ∧ V ≤ W := by
  have h8 := fb.eight
  cases o with
  | none =>
    constructor
    · intro e
      exfalso
      by_cases h9 : W ≤ 9
      · exact ho W h1 h9 res fin hW e
      · exact ho (b.length + 1) (by omega) (by omega) res fin (last_full fb (by omega) hW) e
    · rintro ⟨V, e, _⟩
      cases e
  | some V =>
    constructor
    · exact fun e => ⟨V, rfl, from_le ho h1 hW e⟩
    · rintro ⟨V', e, hV⟩
      have e := Option.some.inj e
      subst e
      obtain ⟨_, _, ⟨res0, fin0, hL0, e0⟩, _⟩ := ho
      exact three_mono fb hV hL0 hW e0
theorem from_small {b : Book} (fb : FormB b) {V : Nat} (ho : FromW b (some V)) : V ≤ b.length + 1 := by
  by_cases h : V ≤ b.length + 1
  · exact h
  · obtain ⟨res, fin, hL⟩ := last_ex b V
    have e := (from_iff fb ho ho.1 hL).mpr ⟨V, rfl, Nat.le_refl _⟩
    exact from_le ho (by omega) (last_full fb (by omega) hL) e
/-! ### the law's own rounds -/
theorem led_ends {b : Book} (fb : FormB b) {t m k : Nat} (ht : t < b.length) : k ∈ ledL b t m ↔ k ∈ endsL b t (min m 8) := by
  have h8 := fb.eight
  unfold ledL endsL
  by_cases h : m = 0
  · subst h
    simp
  · rw [if_neg h, if_neg (by omega)]
    unfold reachL
    by_cases h9 : m ≤ b.length
    · have e1 : min (m - 1) b.length = m - 1 := by omega
      have e2 : min m 8 - 1 = m - 1 := by omega
      rw [e1, e2]
    · rw [mem_wi fb ht (by omega), mem_wi fb ht (by omega)]
def lotsM (b : Book) (W s : Nat) : List (List Nat) := (mvs b s).map fun p => endsL b p.2 (min (W - 1) 8)
theorem good_len {b : Book} (fb : FormB b) (W s : Nat) (st : List Nat) : ((lotsM b W s).filter fun l => !decide ((l.filter fun k => decide (k ∈ st)) = [])).length = (leadM b W s st).length := by
  unfold lotsM leadM
  rw [List.filter_map, List.length_map, List.length_map]
  congr 1
  refine List.filter_congr fun p hp => ?_
  have hp2 := fb.to hp
  show (!decide (((endsL b p.2 (min (W - 1) 8)).filter fun k => decide (k ∈ st)) = [])) = (ledL b p.2 (W - 1)).any fun k => decide (k ∈ st)
  by_cases h : ((endsL b p.2 (min (W - 1) 8)).filter fun k => decide (k ∈ st)) = []
  · rw [decide_eq_true h]
    symm
    rw [Bool.not_true, List.any_eq_false]
    intro k hk z
    have := List.filter_eq_nil_iff.mp h k ((led_ends fb hp2).mp hk)
    exact this z
  · rw [decide_eq_false h]
    symm
    obtain ⟨k, hk⟩ := List.exists_mem_of_ne_nil _ h
    obtain ⟨h1, h2⟩ := List.mem_filter.mp hk
    exact List.any_eq_true.mpr ⟨k, (led_ends fb hp2).mpr h1, h2⟩
end Nv
set_option Elab.async false
set_option linter.all false
namespace Nv
open PySem PySem.Spec PyProof.Rows L2
/-- repr(x), x a number or None -/
def rReprO : List V → Hp → VK → Prop := fun xs H Q => (∃ i, xs = [.int i] ∧ i.natAbs.log2 < 1920 ∧ Q (.str (toString i)) H) ∨ (xs = [.non] ∧ Q (.str "None") H)
theorem call_reprO {X : Cx} : CallR X (.builtin "repr") rReprO := by
  intro pins s σ H xs us Q I r h
  rcases h with h | ⟨rfl, q⟩
  · exact SkE.call_repr_int pins s σ H xs us Q I r h
  · obtain ⟨u, rfl, rfl⟩ := vals1 r
    exact PySem.P.repr_of_none ⟨.str _, H, I.tok _, ⟨_, rfl⟩, q⟩
end Nv
set_option Elab.async false
set_option linter.all false
set_option maxRecDepth 100000
namespace Nv
open PySem PySem.Spec PyProof.Rows L2
section
variable {P : Program} {w : World} {K : PySem.W.Frag} {mg : Str → Option Value} {base : Heap}
/-! ### ranks, and the law's own -/
theorem sc_law_win_forks : FnScope ["book", "state", "moves"] ["book"] (defScope s_law_win_forks) := ⟨rfl, rfl, rfl, by decide +kernel, rfl, by decide +kernel, by decide +kernel⟩
def sp_law_win_forks (K : PySem.W.Frag) : Sp := fun vs H Q _ => ∃ (v : V) (b : Book), vs = [v] ∧ BkV K H v b ∧ FormB b ∧ ∀ (t : Addr) (H' : Hp), H' t = some (.lst ((forksM b).map nV)) → Ext [] H H' → H t = none → Q (.ref t) H'
theorem ok_law_win_forks (T : Tx K mg) : FnOk P w K mg base CX0 1 T.law_win_forks.f T.law_win_forks.fd ["book"] (sp_law_win_forks K) := by
  refine T.law_win_forks.F.ok sc_law_win_forks (fun vs H Q E h => ?_) (fun cdv A outer s H vs Q E hr h => ?_)
  · obtain ⟨v, b, rfl, _⟩ := h; rfl
  · obtain ⟨v, b, rfl, ⟨a, ls, rfl, ha, hls⟩, fb, q⟩ := h
    have h8 := fb.eight
    have llen := Paired.len hls
    refine ⟨_, (pss_one (ps_ret (pe_lc (own := [("state", 1), ("moves", 2)]) rfl sc_law_win_forks.nd (pi_enumT (by rfl) T.n_enumerate (pa_cons (pv 0) pa_nil)) (blkOk_by (own := [("state", 1), ("moves", 2)]) (N := ["book", "state", "moves"]) (sc := defScope s_law_win_forks) (by decide +kernel)) (fun _ _ _ _ _ => (pg_tupK (n := 2) K rfl (pgs_cons (pg_name (i := 1) sc_law_win_forks.nd rfl (.inl rfl)) (pgs_cons (pg_name (i := 2) sc_law_win_forks.nd rfl (.inl rfl)) pgs_nil)))) (fun _ _ _ _ _ => pts_one (pt_mid (pt_cmpR op_gt (pe_callB (call_len_seqK K) (by rfl) T.n_len PySem.boot_len (pa_cons (pv 2) pa_nil)) pe_int (nomark _)))) (fun _ _ _ _ _ => (pv 1))))), ?_⟩
    refine ⟨_, rfl, a, ls, rfl, ha, fun D hD => ?_⟩
    refine lc_it (walk_enumT (K := K) (a := a) (xs := ls)) (fun i H' => H' D = some (.lst ((((List.range b.length).take i).filter fun s => decide (1 < (mvs b s).length)).map nV)) ∧ Ext [] H H') ⟨upd_same, .new hD⟩ (fun i H' _ ⟨_, e⟩ => e.tup Lsts.nil ha) ?_ ?_
    · rintro i v H2 H' hi ⟨hD2, e2⟩ ⟨T', x, y, rfl, hT, rfl, hx, hy⟩
      cases hx
      have hib : i < b.length := by omega
      have hy : ls[i]? = some y := hy
      have hri : (List.range b.length)[i]? = some i := List.getElem?_range hib
      obtain ⟨u, hu, c, ps, rfl, hc, hps⟩ := Paired.get hls (mvs_lt hib)
      rw [hu] at hy
      have hy := Option.some.inj hy
      subst hy
      have plen := Paired.len hps
      have e3 := e2.put2 (o := .tup [.int i, .ref c]) hT
      have hD3 : upd H2 T' (.tup [.int i, .ref c]) D = _ := (upd_ne (ne_of_none hD2 hT)).trans hD2
      refine ⟨T', _, rfl, .of upd_same, rfl, _, _, rfl, _, _, rfl, rfl, rfl, ?_⟩
      refine ⟨fun x H3 => x = decide (1 < (mvs b i).length) ∧ H3 = upd H2 T' (.tup [.int i, .ref c]), ?_, ?_⟩
      · refine ⟨_, rfl, c, _, rfl, .inr ((e3.tz Lsts.nil hc).sq), _, _, rfl, rfl, _, rfl, ?_, rfl⟩
        rw [List.length_map, plen]
        refine decide_eq_decide.mpr ?_
        omega
      · rintro x H3 ⟨rfl, rfl⟩
        refine ifB (fun hf => ?_) (fun hf => ?_)
        · refine ⟨_, rfl, _, hD3, ?_, ?_, e3.put hD⟩
          · rw [List.length_map]
            refine small1000 (Nat.le_trans (List.length_filter_le _ _) ?_)
            rw [List.length_take]
            omega
          · rw [upd_same, filter_take _ hri, hf]
            simp
        · refine ⟨?_, e3⟩
          rw [hD3, filter_take _ hri, hf]
          simp
    · rintro H' ⟨hD2, e2⟩
      rw [llen, List.take_of_length_le (by rw [List.length_range]; exact Nat.le_refl _)] at hD2
      exact q D H' hD2 e2 hD
/-! ### lists of lists of numbers -/
def Nm (X : List Addr) (H : Hp) (v : V) (l : List Nat) : Prop := ∃ g : Addr, v = .ref g ∧ g ∉ X ∧ H g = some (.lst (l.map nV))
def NmS (X : List Addr) (H : Hp) (v : V) (ls : List (List Nat)) : Prop := ∃ (g : Addr) (vs : List V), v = .ref g ∧ g ∉ X ∧ H g = some (.lst vs) ∧ Paired (Nm X H) vs ls
theorem Nm.ext {X Y : List Addr} {H H' : Hp} {v : V} {l : List Nat} (h : Nm X H v l) (e : Ext Y H H') (s : ∀ y ∈ Y, y ∈ X) : Nm X H' v l := by
  obtain ⟨g, rfl, h1, h2⟩ := h
  exact ⟨g, rfl, h1, e _ _ (fun z => h1 (s _ z)) h2⟩
theorem Nm.less {X Y : List Addr} {H : Hp} {v : V} {l : List Nat} (h : Nm X H v l) (s : ∀ y ∈ Y, y ∈ X) : Nm Y H v l := by
  obtain ⟨g, rfl, h1, h2⟩ := h
  exact ⟨g, rfl, fun z => h1 (s _ z), h2⟩
theorem NmS.ext {X Y : List Addr} {H H' : Hp} {v : V} {l : List (List Nat)} (h : NmS X H v l) (e : Ext Y H H') (s : ∀ y ∈ Y, y ∈ X) : NmS X H' v l := by
  obtain ⟨g, vs, rfl, h1, h2, h3⟩ := h
  exact ⟨g, vs, rfl, h1, e _ _ (fun z => h1 (s _ z)) h2, Paired.imp h3 fun _ _ z => z.ext e s⟩
theorem NmS.less {X Y : List Addr} {H : Hp} {v : V} {l : List (List Nat)} (h : NmS X H v l) (s : ∀ y ∈ Y, y ∈ X) : NmS Y H v l := by
  obtain ⟨g, vs, rfl, h1, h2, h3⟩ := h
  exact ⟨g, vs, rfl, fun z => h1 (s _ z), h2, Paired.imp h3 fun _ _ z => z.less s⟩
theorem sc_law_win_ranks : FnScope ["book", "window", "found", "stand", "ends", "turn", "gone", "state", "good", "moves", "message", "to", "lot", "other"] ["book", "window"] (defScope s_law_win_ranks) := ⟨rfl, rfl, rfl, by decide +kernel, rfl, by decide +kernel, by decide +kernel⟩
def sp_law_win_ranks (K : PySem.W.Frag) : Sp := fun vs H Q _ => ∃ (v : V) (b : Book) (W : Nat), vs = [v, .int W] ∧ BkV K H v b ∧ FormB b ∧ 1 ≤ W ∧ ∀ (res : List (Option Int)) (fin : List Nat) (t : Addr) (H' : Hp), LastM b W res fin → H' t = some (.lst (res.map oV)) → Ext [] H H' → Q (.ref t) H'
theorem ok_law_win_ranks (T : Tx K mg) : FnOk P w K mg base CX0 2 T.law_win_ranks.f T.law_win_ranks.fd ["book", "window"] (sp_law_win_ranks K) := by
  refine T.law_win_ranks.F.ok sc_law_win_ranks (fun vs H Q E h => ?_) (fun cdv A outer s H vs Q E hr h => ?_)
  · obtain ⟨v, b, W, rfl, _⟩ := h; rfl
  · obtain ⟨v, b, W, rfl, hb, fb, hW, q⟩ := h
    obtain ⟨a, ls, rfl, ha, hls⟩ := id hb
    have llen := Paired.len hls
    have h8 := fb.eight
    refine ⟨_, (pss_cons (ps_asg (pe_tup (pa_cons (pe_op op_rep (pe_lst (pa_cons pe_non pa_nil)) (pe_callB call_len_seq (by rfl) T.n_len PySem.boot_len (pa_cons (pv 0) pa_nil))) (pa_cons (pe_call (ok_law_win_forks T) (hr.mono (by decide)) (by rfl) T.law_win_forks.g T.law_win_forks.F.kp T.law_win_forks.b .nil pass0 (pa_cons (pv 0) pa_nil)) pa_nil))) (pg_tup rfl (pgs_cons (pg_name (i := 2) sc_law_win_ranks.nd rfl (.inl rfl)) (pgs_cons (pg_name (i := 3) sc_law_win_ranks.nd rfl (.inr rfl)) pgs_nil))))
      (pss_cons (ps_setLc (i := 4) (own := [("moves", 9)]) rfl sc_law_win_ranks.nd rfl rfl (sw_true rfl rfl rfl (by decide +kernel)) (pi_tup (pv 0)) (blkOk_by (own := [("moves", 9)]) (N := ["book", "window", "found", "stand", "ends", "turn", "gone", "state", "good", "moves", "message", "to", "lot", "other"]) (sc := defScope s_law_win_ranks) (by decide +kernel)) (fun _ _ _ _ _ => (pg_name (i := 9) sc_law_win_ranks.nd rfl (.inl rfl))) (fun _ _ _ _ _ => pts_nil) (fun _ _ _ _ _ => (pe_lc (own := [("message", 10), ("to", 11)]) rfl sc_law_win_ranks.nd (pi_tupK K (pv 9)) (blkOk_by (own := [("message", 10), ("to", 11)]) (by kernel_rfl)) (fun _ _ _ _ _ => (pg_tupK (n := 2) K rfl (pgs_cons (pg_name (i := 10) sc_law_win_ranks.nd rfl (.inl rfl)) (pgs_cons (pg_name (i := 11) sc_law_win_ranks.nd rfl (.inl rfl)) pgs_nil)))) (fun _ _ _ _ _ => pts_nil) (fun _ _ _ _ _ => (pe_call (ok_law_win_ends T) (hr.mono (by decide)) (by rfl) T.law_win_ends.g T.law_win_ends.F.kp T.law_win_ends.b .nil pass0 (pa_cons (pv 0) (pa_cons (pv 11) (pa_cons (pe_op op_sub (pv 1) pe_int) pa_nil))))))))
      (C8.pss_cut (ps_for PassesOwn.never rfl (pi_range1 (by rfl) T.n_range (pa_cons (pe_op op_add (pe_callB call_len_seq (by rfl) T.n_len PySem.boot_len (pa_cons (pv 0) pa_nil)) pe_int) pa_nil)) (pg_name (i := 5) sc_law_win_ranks.nd rfl (.inl rfl))
        (pss_cons (ps_set (i := 6) sc_law_win_ranks.nd rfl (.inr rfl) (pe_lst pa_nil))
        (pss_cons (ps_for PassesOwn.never rfl (pi_list (pv 3)) (pg_name (i := 7) sc_law_win_ranks.nd rfl (.inl rfl))
          (pss_cons (ps_setLc (i := 8) (own := [("lot", 12)]) rfl sc_law_win_ranks.nd rfl rfl (sw_true rfl rfl rfl (by decide +kernel)) (pi_list (pe_ix ix_list (pv 4) (pv 7) (fun _ _ => rfl))) (blkOk_by (own := [("lot", 12)]) (N := ["book", "window", "found", "stand", "ends", "turn", "gone", "state", "good", "moves", "message", "to", "lot", "other"]) (sc := defScope s_law_win_ranks) (by decide +kernel)) (fun _ _ _ _ _ => (pg_name (i := 12) sc_law_win_ranks.nd rfl (.inl rfl))) (fun _ _ _ _ _ => pts_one (pt_mid (pt_cmpR (op_neDK K hr.units) (pe_lc (own := [("other", 13)]) rfl sc_law_win_ranks.nd (pi_listK K (pv 12)) (blkOk_by (own := [("other", 13)]) (by kernel_rfl)) (fun _ _ _ _ _ => (pg_name (i := 13) sc_law_win_ranks.nd rfl (.inl rfl))) (fun _ _ _ _ _ => pts_one (pt_mid (pt_cmpR (op_in_seqK K) (pv 13) (pv 3) (by rfl)))) (fun _ _ _ _ _ => (pv 13))) (pe_lst pa_nil) (nomark _)))) (fun _ _ _ _ _ => (pv 12)))
          (pss_one (ps_if (pt_cmpR op_lt (pe_callB call_len_seq (by rfl) T.n_len PySem.boot_len (pa_cons (pv 8) pa_nil)) pe_int (nomark _))
            (pss_one (ps_expr (pe_bm PySem.F.plainAttrs_list PySem.F.slot_list_append PySem.F.type_list_append mt_append (pv 6) (pa_cons (pv 7) pa_nil))))
            pss_nil))))
        (pss_cons (ps_for PassesOwn.never rfl (pi_list (pv 6)) (pg_name (i := 7) sc_law_win_ranks.nd rfl (.inl rfl))
          (pss_one (ps_asg (pv 5) (pg_sub (pv 2) (pv 7) set_list))))
        (pss_cons (ps_set (i := 3) sc_law_win_ranks.nd rfl (.inr rfl) (pe_lc (own := [("state", 7)]) rfl sc_law_win_ranks.nd (pi_list (pv 3)) (blkOk_by (own := [("state", 7)]) (N := ["book", "window", "found", "stand", "ends", "turn", "gone", "state", "good", "moves", "message", "to", "lot", "other"]) (sc := defScope s_law_win_ranks) (by decide +kernel)) (fun _ _ _ _ _ => (pg_name (i := 7) sc_law_win_ranks.nd rfl (.inl rfl))) (fun _ _ _ _ _ => pts_one (pt_mid (pt_cmpR (op_notIn_seqK K) (pv 7) (pv 6) (by rfl)))) (fun _ _ _ _ _ => (pv 7))))
        (pss_one (ps_if (pt_cmpR (op_eqD (hr.units)) (pv 6) (pe_lst pa_nil) (nomark _))
          (pss_one ps_break)
          pss_nil)))))))
      (pss_cons (ps_for PassesOwn.never rfl (pi_list (pv 3)) (pg_name (i := 7) sc_law_win_ranks.nd rfl (.inl rfl))
        (pss_one (ps_asg (pe_un un_neg pe_int) (pg_sub (pv 2) (pv 7) set_list))))
      (pss_one (ps_ret (pv 2))))))), ?_⟩
    -- found, stand
    refine ⟨(by show 1 ≤ sizeLine; decide), fun x hx => ?_⟩
    have e0 : Ext [] H (upd H x (.lst [.non])) := .new hx
    refine ⟨_, rfl, a, _, rfl, .inr (e0.tup Lsts.nil ha), x, _, _, rfl, rfl, upd_same, by omega, by omega, ?_, fun ro hro => ?_⟩
    · rw [forTo llen]
      exact Nat.le_of_lt (small1000 (by show 1 * b.length ≤ 1000; omega))
    rw [forTo llen]
    have e1 := e0.trans (Ext.new (L := []) (o := .lst (List.replicate b.length [V.non]).flatten) hro)
    have hr1 : upd (upd H x (.lst [.non])) ro (.lst (List.replicate b.length [V.non]).flatten) ro = some (.lst ((List.replicate b.length (none : Option Int)).map oV)) := by
      rw [upd_same, List.map_replicate]
      congr 2
      clear hro e1 llen h8 fb hb q hls ha
      induction b.length with
      | zero => rfl
      | succ n ih => rw [List.replicate_succ, List.flatten_cons, ih, List.replicate_succ]; rfl
    generalize upd (upd H x (.lst [.non])) ro (.lst (List.replicate b.length [V.non]).flatten) = H1 at *
    have fro : H ro = none := e0.free hro
    refine ⟨_, rfl, .ref a, b, rfl, hb.ext0 e1, fb, fun so H2 hso e2 fso => ⟨(by show 2 ≤ sizeLine; decide), fun t ht => ⟨t, _, rfl, .of upd_same, rfl, _, _, rfl, _, _, rfl, rfl, ?_⟩⟩⟩
    have e3 := (e1.trans e2).put2 (o := .tup [.ref ro, .ref so]) ht
    have hr3 : upd H2 t (.tup [.ref ro, .ref so]) ro = _ := (upd_ne (ne_of_none (e2.at hr1 (by simp)) ht)).trans (e2.at hr1 (by simp))
    have hs3 : upd H2 t (.tup [.ref ro, .ref so]) so = _ := (upd_ne (ne_of_none hso ht)).trans hso
    generalize upd H2 t (.tup [.ref ro, .ref so]) = H3 at *
    -- ends
    refine ⟨_, rfl, a, rfl, ⟨_, e3.tup Lsts.nil ha⟩, fun D hD => ?_⟩
    refine lc_tup (K := K) (a := a) (xs := ls) (fun i H' => ∃ vs : List V, H' D = some (.lst vs) ∧ Paired (NmS [D, ro] H') vs (((List.range b.length).take i).map (lotsM b W)) ∧ Ext [] H3 H') ⟨[], upd_same, by simp; exact .nil, .new hD⟩ (fun i H' _ ⟨_, _, _, e⟩ => (e3.trans e).tup Lsts.nil ha) ?_ ?_
    · rintro i v H4 hv ⟨vs, hV, hp, e4⟩
      have hib : i < b.length := by
        have := (List.getElem?_eq_some_iff.mp hv).1
        omega
      have hri : (List.range b.length)[i]? = some i := List.getElem?_range hib
      obtain ⟨u, hu, c, ps, rfl, hc, hps⟩ := Paired.get hls (mvs_lt hib)
      rw [hu] at hv
      cases hv
      have plen := Paired.len hps
      have five := (fb.ok hib).few
      have f4 := e3.trans e4
      refine ⟨rfl, yes ?_⟩
      refine ⟨_, rfl, c, rfl, ⟨_, (f4.tz Lsts.nil hc).sq⟩, fun D2 hD2 => ?_⟩
      have dd : D ≠ D2 := ne_of_none hV hD2
      have hr4 := e4.at hr3 (by simp)
      have rd : ro ≠ D2 := ne_of_none hr4 hD2
      refine lc_tup (K := K) (a := c) (xs := ps.map V.ref) (fun j H' => ∃ ws : List V, H' D2 = some (.lst ws) ∧ Paired (Nm [D2, D, ro] H') ws (((mvs b i).take j).map fun p => endsL b p.2 (min (W - 1) 8)) ∧ Ext [] H4 H') ⟨[], upd_same, by simp; exact .nil, .new hD2⟩ (fun j H' _ ⟨_, _, _, e⟩ => ((f4.trans e).tz Lsts.nil hc).sq) ?_ ?_
      · rintro j v H5 hv ⟨ws, hW5, hp5, e5⟩
        obtain ⟨g, hg, rfl⟩ := map_at hv
        obtain ⟨p, hpp, hcp⟩ := Paired.get' hps hg
        have hm := List.mem_of_getElem? hpp
        have f5 := f4.trans e5
        have hj5 : j < 5 := by
          have := (List.getElem?_eq_some_iff.mp hpp).1
          omega
        refine ⟨g, _, rfl, hcp.ext0 f5, rfl, _, _, rfl, _, _, rfl, rfl, rfl, yes ?_⟩
        refine ⟨_, rfl, _, rfl, _, rfl, _, _, rfl, rfl, .ref a, b, p.2, W - 1, ?_, hb.ext0 f5, fb, fb.to hm, fun t H6 ht6 e6 f6 => ?_⟩
        · have : ((W : Int)) - 1 = ((W - 1 : Nat) : Int) := by omega
          exact congrArg (fun z : Int => [V.ref a, V.int p.2, V.int z]) this
        have hm8 : min (W - 1) 8 = min (W - 1) 8 := rfl
        have tD2 : t ≠ D2 := fun z => by rw [z, hW5] at f6; cases f6
        have tD : t ≠ D := fun z => by
          have := e5.at hV (by simp)
          rw [z, this] at f6
          cases f6
        have tro : t ≠ ro := fun z => by
          have := e5.at hr4 (by simp)
          rw [z, this] at f6
          cases f6
        refine ⟨ws, e6.at hW5 (by simp), ?_, ws ++ [.ref t], upd_same, ?_, (e5.trans e6).put hD2⟩
        · rw [Paired.len hp5, List.length_map, List.length_take]
          exact small1000 (by omega)
        · rw [List.take_add_one, hpp, List.map_append]
          have w1 : Ext [D2] H6 (upd H6 D2 (.lst (ws ++ [.ref t]))) := .wr (by simp)
          refine Paired.snoc (Nm.ext (Y := [D2]) ⟨t, rfl, ?_, ht6⟩ w1 (by simp)) (Paired.imp hp5 fun _ _ z => (z.ext e6 (by simp)).ext w1 (by simp))
          simp [tD2, tD, tro]
      · rintro H5 ⟨ws, hW5, hp5, e5⟩
        rw [List.length_map, plen, List.take_length] at hp5
        have f5 := f4.trans e5
        have hV5 := e5.at hV (by simp)
        refine ⟨vs, hV5, ?_, vs ++ [.ref D2], upd_same, ?_, (e4.trans e5).put hD⟩
        · rw [Paired.len hp, List.length_map, List.length_take, List.length_range]
          exact small1000 (by omega)
        · rw [List.take_add_one, hri, List.map_append]
          have w1 : Ext [D] H5 (upd H5 D (.lst (vs ++ [.ref D2]))) := .wr (by simp)
          refine Paired.snoc (NmS.ext (Y := [D]) ⟨D2, ws, rfl, ?_, hW5, Paired.imp hp5 fun _ _ z => z.less (by simp)⟩ w1 (by simp)) (Paired.imp hp fun _ _ z => (z.ext e5 (by simp)).ext w1 (by simp))
          simp [dd.symm, rd.symm]
    · rintro H4 ⟨vs, hV, hp, e4⟩
      rw [llen, List.take_of_length_le (by rw [List.length_range]; exact Nat.le_refl _)] at hp
      have hp4 : Paired (NmS [ro] H4) vs ((List.range b.length).map (lotsM b W)) := Paired.imp hp fun _ _ z => z.less (by simp)
      have f4 := e3.trans e4
      have hr4 := e4.at hr3 (by simp)
      have hs4 := e4.at hs3 (by simp)
      have fl : (forksM b).length ≤ b.length := by
        unfold forksM
        refine Nat.le_trans (List.length_filter_le _ _) ?_
        rw [List.length_range]
        exact Nat.le_refl _
      have ros : ro ≠ so := fun z => by rw [← z, hr1] at fso; cases fso
      have rD : ro ≠ D := ne_of_none hr3 hD
      clear hp e3 hs3 hr3 e2 hso hr1 e1 e0 fso hD e4
      refine ⟨fun σ H' => ∃ (st : List Nat) (r : List (Option Int)) (so : Addr) (y5 y6 y7 y8 : Option V), σ = [some (.ref a), some (.int W), some (.ref ro), some (.ref so), some (.ref D), y5, y6, y7, y8, none, none, none, none, none] ∧ st.length ≤ 8 ∧ (∀ k ∈ st, k < b.length) ∧ H' ro = some (.lst (r.map oV)) ∧ r.length = b.length ∧
        H' so = some (.lst (st.map nV)) ∧ ro ≠ so ∧ LastM b W (setAll r st (-1)) st ∧ Ext [] H H', ?_, ?_⟩
      · refine ⟨_, rfl, a, _, rfl, .inr (f4.tup Lsts.nil ha), _, _, rfl, rfl, _, rfl, ⟨by omega, by omega, ?_⟩⟩
        have hn1 : ((ls.length : Int) + 1).toNat = b.length + 1 := by omega
        rw [hn1]
        refine for_range (lo := 0) (n := b.length + 1) (fun i σ H' => ∃ (st : List Nat) (r : List (Option Int)) (so : Addr) (y5 y6 y7 y8 : Option V), σ = [some (.ref a), some (.int W), some (.ref ro), some (.ref so), some (.ref D), y5, y6, y7, y8, none, none, none, none, none] ∧ st.length + i ≤ b.length ∧ (∀ k ∈ st, k < b.length) ∧ H' ro = some (.lst (r.map oV)) ∧ r.length = b.length ∧
          H' so = some (.lst (st.map nV)) ∧ ro ≠ so ∧ (∀ res fin, Rk b W i st r res fin → LastM b W res fin) ∧ H' D = some (.lst vs) ∧ Paired (NmS [ro] H') vs ((List.range b.length).map (lotsM b W)) ∧ Ext [] H H')
          ⟨forksM b, List.replicate b.length none, so, _, _, _, _, rfl, by omega, fun k hk => forks_lt hk, hr4, List.length_replicate, hs4, ros, fun _ _ h => h, hV, hp4, f4⟩ ?_ ?_
        · clear hr4 hs4 ros hp4 f4 hV
          rintro i σ H5 hi ⟨st, r, so, y5, y6, y7, y8, rfl, stn, stlt, hR, rlen, hS, ros, hrk, hE, hp5, e⟩
          simp only [Int.zero_add]
          -- gone = []
          refine ⟨Nat.zero_le _, fun go hgo => ?_⟩
          have x0 : Ext [] H5 (upd H5 go (.lst [])) := .new hgo
          refine ⟨_, rfl, so, rfl, ⟨_, .of (x0.at hS (by simp))⟩, for_list (K := K) (a := so) (xs := st.map nV) (fun k σ H' => ∃ y7 y8 : Option V, σ = [some (.ref a), some (.int W), some (.ref ro), some (.ref so), some (.ref D), some (.int i), some (.ref go), y7, y8, none, none, none, none, none] ∧
            H' go = some (.lst (((st.take k).filter fun f => decide ((leadM b W f st).length < 2)).map nV)) ∧ Ext [] H5 H') ⟨_, _, rfl, upd_same, x0⟩ (fun k σ H' _ ⟨_, _, _, _, e⟩ => .of (e.at hS (by simp))) ?_ ?_⟩
          · rintro k v σ H6 hv ⟨y7, y8, rfl, hG, x6⟩
            obtain ⟨f, hf, rfl⟩ := map_at hv
            have hfb := stlt f (List.mem_of_getElem? hf)
            have hp6 : Paired (NmS [ro] H6) vs ((List.range b.length).map (lotsM b W)) := Paired.imp hp5 fun _ _ z => z.ext x6 (by simp)
            have hlf : ((List.range b.length).map (lotsM b W))[f]? = some (lotsM b W f) := by rw [List.getElem?_map, List.getElem?_range hfb]; rfl
            obtain ⟨ve, hve, g, ws, rfl, _, hg, hws⟩ := Paired.get hp6 hlf
            have wl : ws.length ≤ 5 := by
              rw [Paired.len hws]
              unfold lotsM
              rw [List.length_map]
              exact (fb.ok hfb).few
            -- good
            refine ⟨_, rfl, _, rfl, D, _, _, _, rfl, rfl, .of (x6.at hE (by simp)), atI_nat hve, g, rfl, ⟨_, .of hg⟩, fun D3 hD3 => ?_⟩
            refine lc_list (K := K) (a := g) (xs := ws) (fun j H' => ∃ zs : List V, H' D3 = some (.lst zs) ∧ zs.length = (((lotsM b W f).take j).filter fun l => !decide ((l.filter fun k => decide (k ∈ st)) = [])).length ∧ Ext [] H6 H') ⟨[], upd_same, rfl, .new hD3⟩ (fun j H' _ ⟨_, _, _, e⟩ => .of (e.at hg (by simp))) ?_ ?_
            · rintro j v H7 hv ⟨zs, hZ, hzl, x7⟩
              obtain ⟨l, hl, g2, rfl, _, hg2⟩ := Paired.get' hws hv
              have hj5 : j < 5 := by
                have := (List.getElem?_eq_some_iff.mp hv).1
                omega
              have hl8 : l.length < 1000 := by
                unfold lotsM at hl
                rw [List.getElem?_map] at hl
                cases hq : (mvs b f)[j]? with
                | none => rw [hq] at hl; cases hl
                | some p =>
                  rw [hq] at hl
                  have hl := Option.some.inj hl
                  rw [← hl]
                  have := endsL_len (m := min (W - 1) 8) (fb.to (List.mem_of_getElem? hq))
                  show (endsL b p.2 (min (W - 1) 8)).length < 1000
                  omega
              refine ⟨rfl, ?_⟩
              refine ⟨fun x H8 => x = (!decide ((l.filter fun k => decide (k ∈ st)) = [])) ∧ Ext [] H7 H8, ?_, ?_⟩
              · refine ⟨_, rfl, g2, rfl, ⟨_, .of (x7.at hg2 (by simp))⟩, fun D4 hD4 => ?_⟩
                refine filt_list (K := K) (a := g2) (l := l) (fun k => decide (k ∈ st)) hD4 (.of (x7.at hg2 (by simp))) hl8 (fun v => rfl) (fun v => rfl) (fun k H' hk e2 => ?_) (fun H8 hD8 x8 => ?_)
                · refine ⟨_, rfl, _, rfl, so, _, rfl, .inl (.of (e2.at (x7.at (x6.at hS (by simp)) (by simp)) (by simp))), rfl, flat_nV _, _, rfl, inV_nV _ _, .refl⟩
                · refine ⟨Nat.zero_le _, fun z hz => ?_⟩
                  have x9 : Ext [] H8 (upd H8 z (.lst [])) := .new hz
                  have hD9 := x9.at hD8 (by simp)
                  rw [map_nV_int] at hD9
                  refine ⟨_, _, .lst (.of hD9) (dp_ints _), .lst (.of upd_same) .nil, shaped_ints _, by decide, _, rfl, ?_, x8.trans x9⟩
                  rw [eqv_nil]
                  congr 1
                  refine decide_eq_decide.mpr ?_
                  exact List.map_eq_nil_iff
              · rintro x H8 ⟨rfl, x8⟩
                have hZ8 := x8.at hZ (by simp)
                refine ifB (fun hf => ?_) (fun hf => ?_)
                · refine ⟨_, rfl, _, hZ8, ?_, zs ++ [.ref g2], upd_same, ?_, (x7.trans x8).put hD3⟩
                  · rw [hzl]
                    refine small1000 (Nat.le_trans (List.length_filter_le _ _) ?_)
                    rw [List.length_take]
                    omega
                  · rw [List.length_append, hzl, filter_take _ hl, hf]
                    simp
                · refine ⟨zs, hZ8, ?_, x7.trans x8⟩
                  rw [hzl, filter_take _ hl, hf]
                  simp
            · rintro H7 ⟨zs, hZ, hzl, x7⟩
              rw [Paired.len hws, List.take_length, good_len fb] at hzl
              have hG7 := x7.at hG (by simp)
              refine ⟨_, rfl, D3, _, rfl, .inl (.of hZ), _, _, rfl, rfl, _, rfl, ?_⟩
              have hd : decide ((zs.length : Int) < 2) = decide ((leadM b W f st).length < 2) := by
                rw [hzl]
                refine decide_eq_decide.mpr ?_
                omega
              rw [hd]
              refine ifB (fun hf2 => ?_) (fun hf2 => ?_)
              · refine ⟨_, rfl, .inl ⟨rfl, _, .of hG7⟩, _, rfl, go, _, _, rfl, rfl, hG7, ?_, _, _, rfl, ?_, (x6.trans x7).put hgo⟩
                · rw [List.length_map]
                  refine small1000 (Nat.le_trans (List.length_filter_le _ _) ?_)
                  rw [List.length_take]
                  omega
                · rw [upd_same, filter_take _ hf, hf2]
                  simp
              · refine ⟨_, _, rfl, ?_, x6.trans x7⟩
                rw [hG7, filter_take _ hf, hf2]
                simp
          · rintro σ H6 ⟨y7, y8, rfl, hG, x6⟩
            rw [List.length_map, List.take_length] at hG
            have hG : H6 go = some (.lst ((fallM b W st).map nV)) := hG
            have hR6 := x6.at hR (by simp)
            have hS6 := x6.at hS (by simp)
            have hE6 := x6.at hE (by simp)
            have hp6 : Paired (NmS [ro] H6) vs ((List.range b.length).map (lotsM b W)) := Paired.imp hp5 fun _ _ z => z.ext x6 (by simp)
            have e6 := e.trans x6
            have rgo : ro ≠ go := ne_of_none hR hgo
            have fsub : ∀ k ∈ fallM b W st, k < b.length := fun k hk => stlt k (List.mem_filter.mp hk).1
            refine ⟨_, rfl, go, rfl, ⟨_, .of hG⟩, for_list (K := K) (a := go) (xs := (fallM b W st).map nV) (fun k σ H' => ∃ y7 y8 : Option V, σ = [some (.ref a), some (.int W), some (.ref ro), some (.ref so), some (.ref D), some (.int i), some (.ref go), y7, y8, none, none, none, none, none] ∧
              H' ro = some (.lst ((setAll r ((fallM b W st).take k) i).map oV)) ∧ Ext [ro] H6 H') ⟨_, _, rfl, hR6, .refl⟩ (fun k σ H' _ ⟨_, _, _, _, x⟩ => .of (x _ _ (by simp [rgo.symm]) hG)) ?_ ?_⟩
            · rintro k v σ H7 hv ⟨y7, y8, rfl, h1, x7⟩
              obtain ⟨f, hf, rfl⟩ := map_at hv
              refine ⟨_, rfl, _, rfl, _, rfl, ro, _, _, f, rfl, rfl, h1, ixNat ?_, _, _, rfl, ?_, x7.trans (.wr (by simp))⟩
              · rw [List.length_map, setAll_len, rlen]
                exact fsub f (List.mem_of_getElem? hf)
              · rw [upd_same, List.take_add_one, hf]
                show _ = some (HO.lst ((setAll r ((fallM b W st).take k ++ [f]) i).map oV))
                rw [setAll_snoc, List.map_set]
                rfl
            · rintro σ H7 ⟨y7, y8, rfl, h1, x7⟩
              rw [List.length_map, List.take_length] at h1
              have hS7 := x7 so _ (by simp [ros.symm]) hS6
              have hE7 := x7 D _ (by simp [rD.symm]) hE6
              have hG7 := x7 go _ (by simp [rgo.symm]) hG
              have hp7 : Paired (NmS [ro] H7) vs ((List.range b.length).map (lotsM b W)) := Paired.imp hp6 fun _ _ z => z.ext x7 (fun y hy => hy)
              have e7 : Ext [] H H7 := Ext.drop (e6.weak.trans x7) fro
              -- stand
              refine ⟨_, rfl, so, rfl, ⟨_, .of hS7⟩, fun s2 hs2 => ?_⟩
              have rs2 : ro ≠ s2 := ne_of_none h1 hs2
              refine filt_list (K := K) (a := so) (l := st) (fun f => !decide (f ∈ fallM b W st)) hs2 (.of hS7) (by omega) (fun v => rfl) (fun v => rfl) (fun k H' hk e2 => ?_) (fun H8 hS8 x8 => ?_)
              · refine ⟨_, rfl, _, rfl, go, _, rfl, .inl (.of (e2.at hG7 (by simp))), rfl, flat_nV _, _, rfl, ?_, .refl⟩
                show (!inV (nV k) ((fallM b W st).map nV)) = _
                rw [inV_nV]
              · have hG8 := x8.at hG7 (by simp)
                rw [map_nV_int] at hG8
                -- if gone == []
                refine ⟨_, rfl, Nat.zero_le _, fun z hz => ?_⟩
                have x9 : Ext [] H8 (upd H8 z (.lst [])) := .new hz
                refine ⟨_, _, .lst (.of (x9.at hG8 (by simp))) (dp_ints _), .lst (.of upd_same) .nil, shaped_ints _, by decide, _, rfl, ?_⟩
                rw [eqv_nil]
                have x79 := x8.trans x9
                have rl : (setAll r (fallM b W st) i).length = b.length := by rw [setAll_len]; exact rlen
                refine ite2 (fun c => ?_) (fun c => ?_)
                · have hemp : fallM b W st = [] := List.map_eq_nil_iff.mp (of_decide_eq_true c)
                  have er : restM b W st = st := by
                    unfold restM
                    rw [hemp]
                    exact List.filter_eq_self.mpr fun k _ => rfl
                  have es : setAll r (fallM b W st) i = r := by rw [hemp]; rfl
                  rw [es] at h1
                  refine ⟨restM b W st, r, s2, _, _, _, _, rfl, by rw [er]; omega, fun k hk => stlt k (List.mem_filter.mp hk).1, x79.at h1 (by simp), rlen, x9.at hS8 (by simp), rs2, ?_, e7.trans x79⟩
                  rw [er]
                  exact hrk _ _ (.stop hemp)
                · have hemp : fallM b W st ≠ [] := fun h => c (decide_eq_true (by rw [h]; rfl))
                  have rl2 := rest_len hemp
                  exact ⟨restM b W st, setAll r (fallM b W st) i, s2, _, _, _, _, rfl, by omega, fun k hk => stlt k (List.mem_filter.mp hk).1, x79.at h1 (by simp), rl, x9.at hS8 (by simp), rs2, fun res fin h => hrk res fin (.go hemp h), x79.at hE7 (by simp), Paired.imp hp7 fun _ _ z => z.ext x79 (by simp), e7.trans x79⟩
        · rintro σ H5 ⟨st, r, so, y5, y6, y7, y8, rfl, stn, _⟩
          omega
      · rintro σ H5 ⟨st, r, so, y5, y6, y7, y8, rfl, st8, stlt, hR, rlen, hS, ros, hL, e⟩
        refine ⟨_, rfl, so, rfl, ⟨_, .of hS⟩, for_list (K := K) (a := so) (xs := st.map nV) (fun k σ H' => ∃ y7 : Option V, σ = [some (.ref a), some (.int W), some (.ref ro), some (.ref so), some (.ref D), y5, y6, y7, y8, none, none, none, none, none] ∧
          H' ro = some (.lst ((setAll r (st.take k) (-1)).map oV)) ∧ Ext [ro] H5 H') ⟨_, rfl, hR, .refl⟩ (fun k σ H' _ ⟨_, _, _, x⟩ => .of (x _ _ (by simp [ros.symm]) hS)) ?_ ?_⟩
        · rintro k v σ H7 hv ⟨y7, rfl, h1, x7⟩
          obtain ⟨f, hf, rfl⟩ := map_at hv
          refine ⟨1, rfl, _, rfl, _, rfl, ro, _, _, f, rfl, rfl, h1, ixNat ?_, _, rfl, ?_, x7.trans (.wr (by simp))⟩
          · rw [List.length_map, setAll_len, rlen]
            exact stlt f (List.mem_of_getElem? hf)
          · rw [upd_same, List.take_add_one, hf]
            show _ = some (HO.lst ((setAll r (st.take k ++ [f]) (-1)).map oV))
            rw [setAll_snoc, List.map_set]
            rfl
        · rintro σ H7 ⟨y7, rfl, h1, x7⟩
          rw [List.length_map, List.take_length] at h1
          exact ⟨_, rfl, q _ _ ro H7 hL h1 (Ext.drop (e.weak.trans x7) fro)⟩
end
end Nv
set_option linter.all false
namespace Nv
open PySem PySem.Spec PyProof.Rows L2
/-! ### what is shown of small things -/
def oD : Option Int → PyData
  | none => .none
  | some i => .int i
theorem dp_o {K : PySem.W.Frag} {H : Hp} : ∀ l : List (Option Int), DpAll K H (l.map oV) (l.map oD)
  | [] => .nil
  | none :: r => .cons .non (dp_o r)
  | some i :: r => .cons (.int i) (dp_o r)
theorem int_short {i : Int} (h1 : -1 ≤ i) (h2 : i < 8) : PyData.leavesShort 8 (.int i) = true := by
  have : i = -1 ∨ i = 0 ∨ i = 1 ∨ i = 2 ∨ i = 3 ∨ i = 4 ∨ i = 5 ∨ i = 6 ∨ i = 7 := by omega
  rcases this with rfl | rfl | rfl | rfl | rfl | rfl | rfl | rfl | rfl <;> decide +kernel
structure ShowOk (d : PyData) : Prop where
  a : d.showable = true
  b : d.hasDict = false
  c : d.depth ≤ 60
  d : d.shown.length ≤ sizeLine
def Small (l : List (Option Int)) : Prop := ∀ i, some i ∈ l → -1 ≤ i ∧ i < 8
theorem o_short : ∀ l : List (Option Int), Small l → PyData.leavesShortAll 8 (l.map oD) = true
  | [], _ => rfl
  | none :: r, h => by
    have h2 := o_short r fun i hi => h i (List.mem_cons_of_mem _ hi)
    simp only [List.map_cons, oD, PyData.leavesShortAll, PyData.leavesShort, h2, Bool.and_true]
  | some i :: r, h => by
    have h1 := int_short (h i (by simp)).1 (h i (by simp)).2
    have h2 := o_short r fun i hi => h i (List.mem_cons_of_mem _ hi)
    simp only [List.map_cons, oD, PyData.leavesShortAll, h1, h2, Bool.and_true]
theorem o_show : ∀ l : List (Option Int), Small l → PyData.showableAll (l.map oD) = true
  | [], _ => rfl
  | none :: r, h => by
    have h2 := o_show r fun i hi => h i (List.mem_cons_of_mem _ hi)
    simp only [List.map_cons, oD, PyData.showableAll, PyData.showable, h2, Bool.and_true]
  | some i :: r, h => by
    have h1 := h i (by simp)
    have h3 : i.natAbs.log2 < 1920 := Nat.lt_of_le_of_lt (Nat.log2_le_self _) (by omega)
    have h2 := o_show r fun i hi => h i (List.mem_cons_of_mem _ hi)
    simp only [List.map_cons, oD, PyData.showableAll, PyData.showable, h2, h3, decide_true, Bool.and_true]
theorem o_nodict : ∀ l : List (Option Int), PyData.hasDictAll (l.map oD) = false
  | [] => rfl
  | none :: r => by simp only [List.map_cons, oD, PyData.hasDictAll, PyData.hasDict, o_nodict r, Bool.or_self]
  | some i :: r => by simp only [List.map_cons, oD, PyData.hasDictAll, PyData.hasDict, o_nodict r, Bool.or_self]
theorem o_depth : ∀ l : List (Option Int), PyData.depthAll (l.map oD) = 0
  | [] => rfl
  | none :: r => by simp [oD, PyData.depthAll, PyData.depth, o_depth r]
  | some i :: r => by simp [oD, PyData.depthAll, PyData.depth, o_depth r]
theorem o_bulk : ∀ l : List (Option Int), PyData.bulkAll (l.map oD) = l.length
  | [] => rfl
  | none :: r => by
    simp only [List.map_cons, oD, PyData.bulkAll, PyData.bulk, o_bulk r, List.length_cons]
    omega
  | some i :: r => by
    simp only [List.map_cons, oD, PyData.bulkAll, PyData.bulk, o_bulk r, List.length_cons]
    omega
theorem show_o {l : List (Option Int)} (h : Small l) (hl : l.length ≤ 8) : ShowOk (.tuple (l.map oD)) where
  a := by
    show PyData.showableAll _ = true
    exact o_show l h
  b := by
    show PyData.hasDictAll _ = false
    exact o_nodict l
  c := by
    show PyData.depthAll _ + 1 ≤ 60
    rw [o_depth]
    decide
  d := by
    have k := PyData.shown_le_bulk 8 (Nat.le_refl _) (.tuple (l.map oD)) (by show PyData.leavesShortAll 8 _ = true; exact o_short l h)
    have e : PyData.bulk (.tuple (l.map oD)) = l.length := by
      show PyData.bulkAll _ = _
      exact o_bulk l
    rw [e] at k
    exact Nat.le_of_lt (small1000 (by omega))
/-- numbers as such a list -/
def someN (l : List Nat) : List (Option Int) := l.map fun n : Nat => some (n : Int)
theorem some_nV (l : List Nat) : (someN l).map oV = l.map nV := by
  unfold someN
  rw [List.map_map]
  rfl
theorem small_nats {l : List Nat} (h : ∀ n ∈ l, n < 8) : Small (someN l) := fun i hi => by
  obtain ⟨n, hn, e⟩ := List.mem_map.mp hi
  have := h n hn
  have e := Option.some.inj e
  omega
theorem dp_nats {K : PySem.W.Frag} {H : Hp} (l : List Nat) : DpAll K H (l.map nV) ((someN l).map oD) := by
  rw [← some_nV]
  exact dp_o _
/-! ### the ranks' bounds -/
theorem rk_bound {b : Book} {W t : Nat} {st fin : List Nat} {r res : List (Option Int)} (h : Rk b W t st r res fin) : (∀ (k : Nat) (v : Int), r[k]? = some (some v) → -1 ≤ v ∧ v < t) → ∀ (k : Nat) (v : Int), res[k]? = some (some v) → -1 ≤ v ∧ v < t + st.length := by
  induction h with
  | @stop t st r _ =>
    intro h k v hk
    rw [setAll_get] at hk
    split at hk
    · have := Option.some.inj (Option.some.inj hk)
      omega
    · have := h k v hk
      omega
  | @go t st fin r res hne _ ih =>
    intro h k v hk
    have rl := rest_len hne
    have := ih (fun k v hk => by
      rw [setAll_get] at hk
      split at hk
      · have := Option.some.inj (Option.some.inj hk)
        omega
      · have := h k v hk
        omega) k v hk
    omega
theorem forks_len (b : Book) : (forksM b).length ≤ b.length := by
  unfold forksM
  refine Nat.le_trans (List.length_filter_le _ _) ?_
  rw [List.length_range]
  exact Nat.le_refl _
theorem last_len {b : Book} {W : Nat} {res : List (Option Int)} {fin : List Nat} (h : LastM b W res fin) : res.length = b.length := by rw [rk_len h, List.length_replicate]
theorem last_small {b : Book} (fb : FormB b) {W : Nat} {res : List (Option Int)} {fin : List Nat} (h : LastM b W res fin) : Small res := fun i hi => by
  obtain ⟨k, hk, e⟩ := List.mem_iff_getElem.mp hi
  have h8 := fb.eight
  have fl := forks_len b
  have := rk_bound h (fun k v hk => by
    rw [List.getElem?_replicate] at hk
    split at hk <;> cases hk) k i (by rw [List.getElem?_eq_getElem hk, e])
  omega
/-- the ranks from 0 on -/
def posL (res : List (Option Int)) : List Int := res.filterMap fun o => match o with
  | some v => if 0 ≤ v then some v else none
  | none => none
def posO : Option Int → List Int
  | some v => if 0 ≤ v then [v] else []
  | none => []
theorem posL_take {res : List (Option Int)} {i : Nat} {o : Option Int} (h : res[i]? = some o) : posL (res.take (i + 1)) = posL (res.take i) ++ posO o := by
  unfold posL
  rw [List.take_add_one, h, List.filterMap_append]
  congr 1
  cases o with
  | none => rfl
  | some v =>
    by_cases hv : 0 ≤ v <;> simp [hv, posO]
theorem mem_posL {res : List (Option Int)} {v : Int} : v ∈ posL res ↔ 0 ≤ v ∧ ∃ k : Nat, res[k]? = some (some v) := by
  unfold posL
  rw [List.mem_filterMap]
  constructor
  · rintro ⟨o, ho, e⟩
    cases o with
    | none => cases e
    | some u =>
      by_cases hu : 0 ≤ u
      · have e : (if 0 ≤ u then some u else none) = some v := e
        rw [if_pos hu] at e
        have e := Option.some.inj e
        subst e
        obtain ⟨k, hk, e⟩ := List.mem_iff_getElem.mp ho
        exact ⟨hu, k, by rw [List.getElem?_eq_getElem hk, e]⟩
      · have e : (if 0 ≤ u then some u else none) = some v := e
        rw [if_neg hu] at e
        cases e
  · rintro ⟨hv, k, hk⟩
    refine ⟨some v, List.mem_of_getElem? hk, ?_⟩
    show (if 0 ≤ v then some v else none) = some v
    rw [if_pos hv]
theorem posL_len (res : List (Option Int)) : (posL res).length ≤ res.length := List.length_filterMap_le _ _
/-- the list of the ranks from 0 on, rising, is an initial one -/
theorem pos_initial {b : Book} {W : Nat} {res : List (Option Int)} {fin : List Nat} (h : LastM b W res fin) {ns : List Int} (hp : ns.Pairwise (· < ·)) (hm : ∀ v, v ∈ ns ↔ v ∈ posL res) : ∃ m : Nat, ns = (List.range m).map fun n : Nat => (n : Int) := by
  obtain ⟨m, hv⟩ := last_vals h
  have nn : ∀ z ∈ ns, ∃ n : Nat, z = (n : Int) := fun z hz => by
    have := (mem_posL.mp ((hm z).mp hz)).1
    exact ⟨z.toNat, by omega⟩
  have e : ns = (ns.map Int.toNat).map fun n : Nat => (n : Int) := by
    rw [List.map_map]
    conv => lhs; rw [← List.map_id ns]
    refine List.map_congr_left fun x hx => ?_
    obtain ⟨n, rfl⟩ := nn x hx
    rfl
  refine ⟨m, ?_⟩
  rw [e]
  congr 1
  refine srt_eq ?_ List.pairwise_lt_range fun k => ?_
  · rw [List.pairwise_map]
    refine List.Pairwise.imp_of_mem (fun {a b} ha hb h => ?_) hp
    obtain ⟨n, rfl⟩ := nn a ha
    obtain ⟨m, rfl⟩ := nn b hb
    simp
    omega
  · rw [List.mem_range, ← hv k, List.mem_map]
    constructor
    · rintro ⟨z, hz, e⟩
      obtain ⟨n, rfl⟩ := nn z hz
      have e : n = k := e
      subst e
      exact (mem_posL.mp ((hm _).mp hz)).2
    · intro hk
      exact ⟨(k : Int), (hm _).mpr (mem_posL.mpr ⟨by omega, hk⟩), rfl⟩
theorem in_last {b : Book} {res : List (Option Int)} (hl : res.length = b.length) : inV (V.int (-1)) (res.map oV) = !decide (lastL b res = []) := by
  unfold inV
  rw [List.any_map]
  by_cases h : lastL b res = []
  · rw [decide_eq_true h, Bool.not_true, List.any_eq_false]
    intro o ho
    obtain ⟨k, hk, e⟩ := List.mem_iff_getElem.mp ho
    have nk : k ∉ lastL b res := by rw [h]; simp
    have : ¬ res[k]? = some (some (-1)) := fun z => nk (mem_filt.mpr ⟨by omega, decide_eq_true z⟩)
    rw [List.getElem?_eq_getElem hk, e] at this
    intro z
    cases o with
    | none => cases z
    | some v =>
      have z : decide (v = (-1 : Int)) = true := z
      have z := of_decide_eq_true z
      exact this (by rw [z])
  · rw [decide_eq_false h]
    obtain ⟨k, hk⟩ := List.exists_mem_of_ne_nil _ h
    have hk := of_decide_eq_true (mem_filt.mp hk).2
    exact List.any_eq_true.mpr ⟨_, List.mem_of_getElem? hk, rfl⟩
end Nv
set_option Elab.async false
set_option linter.all false
set_option maxRecDepth 100000
namespace Nv
open PySem PySem.Spec PyProof.Rows L2
/-! ### repr of any data -/
/-- repr(x) of data; nothing is being shown around -/
def rReprA (K : PySem.W.Frag) : List V → Hp → VK → Prop := fun xs H Q => ∃ (v : V) (d : PyData), xs = [v] ∧ Dp K H v d ∧ ShowOk d ∧ Q (.str d.shown) H
theorem call_reprA {X : Cx} (hu : X.A.units + 64 < cLine) (hg : X.A.guards = some []) : CallR X (.builtin "repr") (rReprA X.K) := by
  intro pins s σ H xs us Q I r h
  obtain ⟨v, d, rfl, hd, sh, q⟩ := h
  cases hd with
  | non =>
    obtain ⟨u, rfl, rfl⟩ := vals1 r
    exact PySem.P.repr_of_none ⟨.str _, H, I.tok _, ⟨_, rfl⟩, q⟩
  | bl b =>
    obtain ⟨u, rfl, rfl⟩ := vals1 r
    exact PySem.P.repr_of_bool ⟨.str _, H, I.tok _, ⟨_, rfl⟩, q⟩
  | int i =>
    exact SkE.call_repr_int pins s σ H _ us Q I r ⟨i, rfl, of_decide_eq_true sh.a, q⟩
  | str x =>
    obtain ⟨u, rfl, rx⟩ := vals1 r
    obtain ⟨t, rfl⟩ := rx
    exact PySem.P.repr_of_str ⟨.str _, H, I.tok _, ⟨_, rfl⟩, q⟩ sh.d
  | lst h1 h2 => exact call_reprD hu hg pins s σ H _ us Q I r ⟨_, _, rfl, .lst h1 h2, sh.a, sh.b, sh.c, sh.d, q⟩
  | tup h1 h2 => exact call_reprD hu hg pins s σ H _ us Q I r ⟨_, _, rfl, .tup h1 h2, sh.a, sh.b, sh.c, sh.d, q⟩
theorem call_reprAK (K : PySem.W.Frag) {X : Cx} (hu : X.A.units + 64 < cLine) (hg : X.A.guards = some []) (eK : X.K = K := by rfl) : CallR X (.builtin "repr") (rReprA K) := by
  subst eK
  exact call_reprA hu hg
/-- what is shown of some data -/
theorem show_mk {d : PyData} {n : Nat} (a : d.showable = true) (b : d.hasDict = false) (c : d.depth ≤ 60) (e : PyData.leavesShort 8 d = true) (k : PyData.bulk d ≤ n) (hn : n ≤ 60) : ShowOk d where
  a := a
  b := b
  c := c
  d := by
    have k2 := PyData.shown_le_bulk 8 (Nat.le_refl _) d e
    refine Nat.le_of_lt (small1000 (Nat.le_trans k2 ?_))
    omega
theorem nat_short {n : Nat} (h : n < 8) : PyData.leavesShort 8 (.int (n : Int)) = true := int_short (by omega) (by omega)
abbrev iN (l : List Nat) : List Int := l.map fun n : Nat => (n : Int)
theorem map_nV_iN (l : List Nat) : l.map nV = (iN l).map V.int := by rw [List.map_map]; rfl
theorem str_ne (x : Str) : (!decide (V.str x = V.str x)) = false := by rw [decide_eq_true rfl]; rfl
theorem str_eq (x : Str) : decide (V.str x = V.str x) = true := decide_eq_true rfl
theorem str_small {e : Int} (h : -1 ≤ e ∧ e ≤ 8) : (Str.ofString (toString e)).length ≤ 8 := by
  have : e = -1 ∨ e = 0 ∨ e = 1 ∨ e = 2 ∨ e = 3 ∨ e = 4 ∨ e = 5 ∨ e = 6 ∨ e = 7 ∨ e = 8 := by omega
  rcases this with rfl | rfl | rfl | rfl | rfl | rfl | rfl | rfl | rfl | rfl <;> decide +kernel
theorem show_int {e : Int} (h : -1 ≤ e ∧ e ≤ 8) : ShowOk (.int e) ∧ (PyData.int e).shown.length ≤ 100 := by
  have sl := str_small h
  have hlog : e.natAbs.log2 < 1920 := Nat.lt_of_le_of_lt (Nat.log2_le_self _) (by omega)
  have e1 : (PyData.int e).shown.length = (Str.ofString (toString e)).length := rfl
  exact ⟨⟨decide_eq_true hlog, rfl, (by show (0 : Nat) ≤ 60; decide), by rw [e1]; exact Nat.le_of_lt (small1000 (by omega))⟩, by omega⟩
end Nv
set_option linter.all false
namespace Nv
open PySem PySem.Spec PyProof.Rows L2
/-! ### special messages -/
/-- a lasting fork, or one of this rank or more -/
def hiB (res : List (Option Int)) (r : Int) (k : Nat) : Bool := match res[k]? with
  | some (some x) => decide (x < 0) || decide (r ≤ x)
  | _ => false
def condM (b : Book) (W : Nat) (res : List (Option Int)) (r : Int) (p : Nat × Nat) : Bool := (endsL b p.2 (min (W - 1) 8)).any (hiB res r)
def frontM (b : Book) (s : Nat) : Option Int := (mvs b s)[0]?.map fun p => (p.1 : Int)
def findM (b : Book) (W : Nat) (res : List (Option Int)) (r : Int) (s : Nat) : Option Int := match (mvs b s).find? (condM b W res r) with
  | some p => some (p.1 : Int)
  | none => frontM b s
def specM (b : Book) (W : Nat) (res : List (Option Int)) (s : Nat) : Option Int := match res[s]? with
  | some (some r) => if r < 0 then none else findM b W res r s
  | _ => none
def highM (b : Book) (res : List (Option Int)) (r : Int) : List Nat := (forksM b).filter (hiB res r)
theorem hi_fork {b : Book} {W : Nat} {res : List (Option Int)} {fin : List Nat} (hL : LastM b W res fin) {r : Int} {k : Nat} (h : hiB res r k = true) : k ∈ forksM b := by
  unfold hiB at h
  split at h
  · rename_i x e
    have hk : k < b.length := by
      rw [← last_len hL]
      exact (List.getElem?_eq_some_iff.mp e).1
    by_cases hf : k ∈ forksM b
    · exact hf
    · rw [(last_none hL k).mpr ⟨hk, hf⟩] at e
      cases e
  · cases h
theorem lead_find {b : Book} (fb : FormB b) {W : Nat} {res : List (Option Int)} {fin : List Nat} (hL : LastM b W res fin) (s : Nat) (r : Int) : (leadM b W s (highM b res r)).head? = ((mvs b s).find? (condM b W res r)).map (·.1) := by
  unfold leadM
  rw [List.head?_map]
  have e : (mvs b s).filter (fun p => (ledL b p.2 (W - 1)).any fun k => decide (k ∈ highM b res r)) = (mvs b s).filter (condM b W res r) := by
    refine List.filter_congr fun p hp => ?_
    have hp2 := fb.to hp
    rw [Bool.eq_iff_iff]
    unfold condM
    rw [List.any_eq_true, List.any_eq_true]
    constructor
    · rintro ⟨k, hk, h⟩
      exact ⟨k, (led_ends fb hp2).mp hk, (List.mem_filter.mp (of_decide_eq_true h)).2⟩
    · rintro ⟨k, hk, h⟩
      exact ⟨k, (led_ends fb hp2).mpr hk, decide_eq_true (List.mem_filter.mpr ⟨hi_fork hL h, h⟩)⟩
  rw [e, List.head?_filter]
theorem lead_none {b : Book} (fb : FormB b) {W : Nat} {res : List (Option Int)} {fin : List Nat} (hL : LastM b W res fin) {s : Nat} {r : Int} (h : leadM b W s (highM b res r) = []) : findM b W res r s = frontM b s := by
  have k := lead_find fb hL s r
  rw [h] at k
  unfold findM
  cases e : (mvs b s).find? (condM b W res r) with
  | none => rfl
  | some p => rw [e] at k; cases k
theorem lead_some {b : Book} (fb : FormB b) {W : Nat} {res : List (Option Int)} {fin : List Nat} (hL : LastM b W res fin) {s : Nat} {r : Int} {m : Nat} {l : List Nat} (h : leadM b W s (highM b res r) = m :: l) : findM b W res r s = some (m : Int) := by
  have k := lead_find fb hL s r
  rw [h] at k
  unfold findM
  cases e : (mvs b s).find? (condM b W res r) with
  | none => rw [e] at k; cases k
  | some p =>
    rw [e] at k
    have k := Option.some.inj k
    show some (p.1 : Int) = some (m : Int)
    rw [k]
/-- a fork has a first message -/
theorem fork_first {b : Book} {W : Nat} {res : List (Option Int)} {fin : List Nat} (hL : LastM b W res fin) {s : Nat} {r : Int} (h : res[s]? = some (some r)) : ∃ p l, mvs b s = p :: l ∧ frontM b s = some (p.1 : Int) := by
  have hs : s < b.length := by
    rw [← last_len hL]
    exact (List.getElem?_eq_some_iff.mp h).1
  have hf : s ∈ forksM b := by
    by_cases hf : s ∈ forksM b
    · exact hf
    · rw [(last_none hL s).mpr ⟨hs, hf⟩] at h
      cases h
  have h2 := of_decide_eq_true (mem_filt.mp hf).2
  unfold frontM
  cases e : mvs b s with
  | nil => rw [e] at h2; simp at h2
  | cons p l => exact ⟨p, l, rfl, rfl⟩
def Small2 (l : List (Option Int)) : Prop := ∀ i, some i ∈ l → -1 ≤ i ∧ i < 100
theorem nat100 : ∀ n, n < 100 → PyData.leavesShort 8 (.int ((n : Nat) : Int)) = true := by decide +kernel
theorem int_short2 {i : Int} (h1 : -1 ≤ i) (h2 : i < 100) : PyData.leavesShort 8 (.int i) = true := by
  by_cases h : i = -1
  · subst h
    decide +kernel
  · have := nat100 i.toNat (by omega)
    rwa [Int.toNat_of_nonneg (by omega)] at this
theorem o_short2 : ∀ l : List (Option Int), Small2 l → PyData.leavesShortAll 8 (l.map oD) = true
  | [], _ => rfl
  | none :: r, h => by
    have h2 := o_short2 r fun i hi => h i (List.mem_cons_of_mem _ hi)
    simp only [List.map_cons, oD, PyData.leavesShortAll, PyData.leavesShort, h2, Bool.and_true]
  | some i :: r, h => by
    have h1 := int_short2 (h i (by simp)).1 (h i (by simp)).2
    have h2 := o_short2 r fun i hi => h i (List.mem_cons_of_mem _ hi)
    simp only [List.map_cons, oD, PyData.leavesShortAll, h1, h2, Bool.and_true]
theorem o_show2 : ∀ l : List (Option Int), Small2 l → PyData.showableAll (l.map oD) = true
  | [], _ => rfl
  | none :: r, h => by
    have h2 := o_show2 r fun i hi => h i (List.mem_cons_of_mem _ hi)
    simp only [List.map_cons, oD, PyData.showableAll, PyData.showable, h2, Bool.and_true]
  | some i :: r, h => by
    have h1 := h i (by simp)
    have h3 : i.natAbs.log2 < 1920 := Nat.lt_of_le_of_lt (Nat.log2_le_self _) (by omega)
    have h2 := o_show2 r fun i hi => h i (List.mem_cons_of_mem _ hi)
    simp only [List.map_cons, oD, PyData.showableAll, PyData.showable, h2, h3, decide_true, Bool.and_true]
theorem show_oL {l : List (Option Int)} (h : Small2 l) (hl : l.length ≤ 8) : ShowOk (.list (l.map oD)) where
  a := by
    show PyData.showableAll _ = true
    exact o_show2 l h
  b := by
    show PyData.hasDictAll _ = false
    exact o_nodict l
  c := by
    show PyData.depthAll _ + 1 ≤ 60
    rw [o_depth]
    decide
  d := by
    have k := PyData.shown_le_bulk 8 (Nat.le_refl _) (.list (l.map oD)) (by show PyData.leavesShortAll 8 _ = true; exact o_short2 l h)
    have e : PyData.bulk (.list (l.map oD)) = l.length := by
      show PyData.bulkAll _ = _
      exact o_bulk l
    rw [e] at k
    exact Nat.le_of_lt (small1000 (by omega))
theorem spec_small {b : Book} (fb : FormB b) {W : Nat} {res : List (Option Int)} {s : Nat} {i : Int} (h : specM b W res s = some i) : -1 ≤ i ∧ i < 100 := by
  have key : ∀ p ∈ mvs b s, p.1 ≤ 99 := fun p hp => by
    by_cases hs : s < b.length
    · exact (fb.ok hs).msg p hp
    · rw [mvs_out (by omega)] at hp
      cases hp
  unfold specM at h
  split at h
  · split at h
    · cases h
    · unfold findM at h
      split at h
      · rename_i p e
        have := key p (List.mem_of_find?_eq_some e)
        have h2 : (p.1 : Int) = i := Option.some.inj h
        omega
      · unfold frontM at h
        cases e : (mvs b s)[0]? with
        | none => rw [e] at h; cases h
        | some p =>
          rw [e] at h
          have := key p (List.mem_of_getElem? e)
          have h2 : (p.1 : Int) = i := Option.some.inj h
          omega
  · cases h
end Nv
namespace Nv
theorem find_at {α : Type} {c : α → Bool} : ∀ {l : List α} {i : Nat} {p : α}, l[i]? = some p → (∀ q ∈ l.take i, c q = false) → c p = true → l.find? c = some p
  | [], _, _, h, _, _ => by simp at h
  | x :: r, 0, p, h, _, hc => by
    cases h
    rw [List.find?_cons, hc]
  | x :: r, i + 1, p, h, ha, hc => by
    have hx : c x = false := ha x (by simp)
    rw [List.find?_cons, hx]
    exact find_at (i := i) (by simpa using h) (fun q hq => ha q (by simp [hq])) hc
theorem find_nil {α : Type} {c : α → Bool} {l : List α} (h : ∀ q ∈ l, c q = false) : l.find? c = none := by
  rw [List.find?_eq_none]
  intro x hx
  rw [h x hx]
  simp
theorem mem_take_snoc {α : Type} {l : List α} {i : Nat} {x y : α} (h : l[i]? = some x) (hy : y ∈ l.take (i + 1)) : y ∈ l.take i ∨ y = x := by
  rw [List.take_add_one, h] at hy
  rcases List.mem_append.mp hy with hy | hy
  · exact .inl hy
  · exact .inr (by simpa using hy)
end Nv
set_option Elab.async false
set_option linter.all false
set_option maxRecDepth 100000
namespace Nv
open PySem PySem.Spec PyProof.Rows L2
section
variable {P : Program} {w : World} {K : PySem.W.Frag} {mg : Str → Option Value} {base : Heap}
/-! ### the checks, of any data -/
def intLike : PyData → Bool
  | .int _ => true
  | .bool _ => true
  | _ => false
def isBoolD : PyData → Bool
  | .bool _ => true
  | _ => false
def isTupD : PyData → Bool
  | .tuple _ => true
  | _ => false
theorem kit_int (d : PyData) : kitB (tyD d) "int" = some (intLike d) := by
  cases d with
  | none => exact (by decide +kernel : kitB "NoneType" "int" = some false)
  | bool b => exact (by decide +kernel : kitB "bool" "int" = some true)
  | int i => exact (by decide +kernel : kitB "int" "int" = some true)
  | str x => exact (by decide +kernel : kitB "str" "int" = some false)
  | list l => exact (by decide +kernel : kitB "list" "int" = some false)
  | tuple l => exact (by decide +kernel : kitB "tuple" "int" = some false)
  | dict l => exact (by decide +kernel : kitB "dict" "int" = some false)
theorem kit_bool (d : PyData) : kitB (tyD d) "bool" = some (isBoolD d) := by
  cases d with
  | none => exact (by decide +kernel : kitB "NoneType" "bool" = some false)
  | bool b => exact (by decide +kernel : kitB "bool" "bool" = some true)
  | int i => exact (by decide +kernel : kitB "int" "bool" = some false)
  | str x => exact (by decide +kernel : kitB "str" "bool" = some false)
  | list l => exact (by decide +kernel : kitB "list" "bool" = some false)
  | tuple l => exact (by decide +kernel : kitB "tuple" "bool" = some false)
  | dict l => exact (by decide +kernel : kitB "dict" "bool" = some false)
theorem kit_tup (d : PyData) : kitB (tyD d) "tuple" = some (isTupD d) := by
  cases d with
  | none => exact (by decide +kernel : kitB "NoneType" "tuple" = some false)
  | bool b => exact (by decide +kernel : kitB "bool" "tuple" = some false)
  | int i => exact (by decide +kernel : kitB "int" "tuple" = some false)
  | str x => exact (by decide +kernel : kitB "str" "tuple" = some false)
  | list l => exact (by decide +kernel : kitB "list" "tuple" = some false)
  | tuple l => exact (by decide +kernel : kitB "tuple" "tuple" = some true)
  | dict l => exact (by decide +kernel : kitB "dict" "tuple" = some false)

def sp_wholeD (K : PySem.W.Frag) : Sp := fun vs H Q _ => ∃ (v : V) (d : PyData), vs = [v] ∧ Dp K H v d ∧ Q (.bl (wholeD d)) H
theorem okD_whole (T : Tx K mg) : FnOk P w K mg base CX0 1 T.whole.f T.whole.fd ["thing"] (sp_wholeD K) := by
  refine T.whole.F.ok sc_whole (fun vs H Q E h => ?_) (fun cdv A outer s H vs Q E hr h => ?_)
  · obtain ⟨v, d, rfl, _⟩ := h; rfl
  · obtain ⟨v, d, rfl, hd, q⟩ := h
    refine ⟨_, (pss_one (ps_ret (pe_and (pe_callB call_isi (by rfl) T.n_isinstance (by decide +kernel) (pa_cons (pv 0) (pa_cons (pe_bltn (v := .ty "int") (by rfl) T.n_int (by decide +kernel) rfl) pa_nil))) (pe_one (pe_not (pe_callB call_isi (by rfl) T.n_isinstance (by decide +kernel) (pa_cons (pv 0) (pa_cons (pe_bltn (v := .ty "bool") (by rfl) T.n_bool (by decide +kernel) rfl) pa_nil)))))))), ?_⟩
    have ty := Dp.ty hd
    refine ⟨_, rfl, _, _, _, _, _, rfl, .ty _, ty, kit_ty (kit_int d), _, rfl, ?_⟩
    cases hi : intLike d with
    | false =>
      refine iteF ?_
      have : wholeD d = false := by cases d <;> first | rfl | cases hi
      rw [this] at q
      exact q
    | true =>
      refine iteT ⟨_, rfl, _, _, _, _, _, rfl, .ty _, ty, kit_ty (kit_bool d), _, rfl, ?_⟩
      have : wholeD d = !isBoolD d := by cases d <;> first | rfl | cases hi
      rw [this] at q
      exact q

def sp_whole_withinD (K : PySem.W.Frag) : Sp := fun vs H Q _ => ∃ (v : V) (d : PyData) (a b : Int), vs = [v, .int a, .int b] ∧ Dp K H v d ∧ Q (.bl (inD d a b)) H
theorem okD_whole_within (T : Tx K mg) : FnOk P w K mg base CX0 2 T.whole_within.f T.whole_within.fd ["thing", "low", "high"] (sp_whole_withinD K) := by
  refine T.whole_within.F.ok sc_whole_within (fun vs H Q E h => ?_) (fun cdv A outer s H vs Q E hr h => ?_)
  · obtain ⟨v, d, a, b, rfl, _⟩ := h; rfl
  · obtain ⟨v, d, a, b, rfl, hd, q⟩ := h
    refine ⟨_, (pss_one (ps_ret (pe_and (pe_call (okD_whole T) (hr.mono (by decide)) (by rfl) T.whole.g T.whole.F.kp T.whole.b .nil pass0 (pa_cons (pv 0) pa_nil)) (pe_one (pe_chain op_le op_le (pv 1) (pv 0) (pv 2)))))), ?_⟩
    refine ⟨_, rfl, v, d, rfl, hd, _, rfl, ?_⟩
    cases hd with
    | int i =>
      refine iteT ⟨_, rfl, _, rfl, _, _, rfl, rfl, _, rfl, ?_⟩
      have q : Q (.bl (decide (a ≤ i ∧ i ≤ b))) H := q
      by_cases h1 : a ≤ i
      · rw [decide_eq_true h1]
        refine iteT ⟨_, rfl, _, _, rfl, rfl, ?_⟩
        have e : decide (a ≤ i ∧ i ≤ b) = decide (i ≤ b) := by simp [h1]
        rw [e] at q
        exact q
      · rw [decide_eq_false h1]
        have e : decide (a ≤ i ∧ i ≤ b) = false := by simp [h1]
        rw [e] at q
        exact iteF q
    | non => exact iteF q
    | bl b => exact iteF q
    | str x => exact iteF q
    | lst h1 h2 => exact iteF q
    | tup h1 h2 => exact iteF q

def sp_tuple_withinD (K : PySem.W.Frag) : Sp := fun vs H Q _ => ∃ (v : V) (d : PyData) (a b : Int), vs = [v, .int a, .int b] ∧ Dp K H v d ∧ Q (.bl (tupD d a b)) H
theorem okD_tuple_within (T : Tx K mg) : FnOk P w K mg base CX0 1 T.tuple_within.f T.tuple_within.fd ["thing", "low", "high"] (sp_tuple_withinD K) := by
  refine T.tuple_within.F.ok sc_tuple_within (fun vs H Q E h => ?_) (fun cdv A outer s H vs Q E hr h => ?_)
  · obtain ⟨v, d, a, b, rfl, _⟩ := h; rfl
  · obtain ⟨v, d, a, b, rfl, hd, q⟩ := h
    refine ⟨_, (pss_one (ps_ret (pe_and (pe_callB call_isi (by rfl) T.n_isinstance (by decide +kernel) (pa_cons (pv 0) (pa_cons (pe_bltn (v := .ty "tuple") (by rfl) T.n_tuple (by decide +kernel) rfl) pa_nil))) (pe_one (pe_chain op_le op_le (pv 1) (pe_callB call_len_seq (by rfl) T.n_len PySem.boot_len (pa_cons (pv 0) pa_nil)) (pv 2)))))), ?_⟩
    have ty := Dp.ty hd
    refine ⟨_, rfl, _, _, _, _, _, rfl, .ty _, ty, kit_ty (kit_tup d), _, rfl, ?_⟩
    cases hd with
    | @tup t xs ds ht hds =>
      have len := dpAll_len hds
      refine iteT ⟨_, rfl, _, rfl, t, xs, rfl, .inr ht, _, _, rfl, rfl, _, rfl, ?_⟩
      have q : Q (.bl (decide (a ≤ (ds.length : Int) ∧ (ds.length : Int) ≤ b))) H := q
      rw [← len] at q
      by_cases h1 : a ≤ (xs.length : Int)
      · rw [decide_eq_true h1]
        refine iteT ⟨_, rfl, _, _, rfl, rfl, ?_⟩
        have e : decide (a ≤ (xs.length : Int) ∧ (xs.length : Int) ≤ b) = decide ((xs.length : Int) ≤ b) := by simp [h1]
        rw [e] at q
        exact q
      · rw [decide_eq_false h1]
        have e : decide (a ≤ (xs.length : Int) ∧ (xs.length : Int) ≤ b) = false := by simp [h1]
        rw [e] at q
        exact iteF q
    | non => exact iteF q
    | bl b => exact iteF q
    | str x => exact iteF q
    | int i => exact iteF q
    | lst h1 h2 => exact iteF q
end
end Nv
set_option Elab.async false
set_option linter.all false
set_option maxRecDepth 100000
namespace Nv
open PySem PySem.Spec PyProof.Rows L2
section
variable {P : Program} {w : World} {K : PySem.W.Frag} {mg : Str → Option Value} {base : Heap}
/-! ### the book's form, of any data -/
def intD : PyData → Option Int
  | .int i => some i
  | _ => none
theorem pairD_two {last n : Int} {x y : PyData} : pairD last n (.tuple [x, y]) = if inD x (last + 1) 99 = true ∧ inD y 0 (n - 1) = true then intD x else none := by
  cases x with
  | int m =>
    cases y with
    | int t =>
      simp only [pairD, inD, intD, decide_eq_true_eq]
      by_cases h : last + 1 ≤ m ∧ m ≤ 99 ∧ 0 ≤ t ∧ t ≤ n - 1
      · rw [if_pos h, if_pos ⟨⟨h.1, h.2.1⟩, h.2.2.1, h.2.2.2⟩]
      · rw [if_neg h, if_neg fun z => h ⟨z.1.1, z.1.2, z.2.1, z.2.2⟩]
    | _ => simp [pairD, inD]
  | _ => simp [pairD, inD]
theorem pairD_not {last n : Int} {d : PyData} (h : tupD d 2 2 = false) : pairD last n d = none := by
  cases d with
  | tuple ds =>
    match ds, h with
    | [], _ => rfl
    | [x], _ => cases x <;> rfl
    | [x, y], h => exact absurd h (by show ¬ decide ((2 : Int) ≤ 2 ∧ (2 : Int) ≤ 2) = false; decide)
    | x :: y :: z :: r, _ => cases x <;> cases y <;> rfl
  | _ => rfl
theorem tupD_true {d : PyData} {a b : Int} (h : tupD d a b = true) : ∃ ds, d = .tuple ds ∧ a ≤ (ds.length : Int) ∧ (ds.length : Int) ≤ b := by
  cases d with
  | tuple ds => exact ⟨ds, rfl, of_decide_eq_true h⟩
  | _ => cases h
theorem pairs_drop {last n : Int} {ds : List PyData} {k : Nat} {d : PyData} (h : ds[k]? = some d) : pairsD last n (ds.drop k) = match pairD last n d with | some m => pairsD m n (ds.drop (k + 1)) | none => false := by
  obtain ⟨hk, e⟩ := List.getElem?_eq_some_iff.mp h
  rw [List.drop_eq_getElem_cons hk, e]
  rfl

def sp_has_state_formD (K : PySem.W.Frag) : Sp := fun vs H Q _ => ∃ (v : V) (d : PyData) (n : Int), vs = [v, .int n] ∧ Dp K H v d ∧ Q (.bl (stateD n d)) H
theorem okD_has_state_form (T : Tx K mg) : FnOk P w K mg base CX0 3 T.has_state_form.f T.has_state_form.fd ["thing", "many"] (sp_has_state_formD K) := by
  refine T.has_state_form.F.ok sc_has_state_form (fun vs H Q E h => ?_) (fun cdv A outer s H vs Q E hr h => ?_)
  · obtain ⟨v, d, n, rfl, _⟩ := h; rfl
  · obtain ⟨v, d, n, rfl, hd, q⟩ := h
    refine ⟨_, (pss_cons (ps_if (pt_not (pt_val (pe_call (okD_tuple_within T) (hr.mono (by decide)) (by rfl) T.tuple_within.g T.tuple_within.F.kp T.tuple_within.b .nil pass0 (pa_cons (pv 0) (pa_cons pe_int (pa_cons (pe_glob (v := .int 5) (by rfl) T.c_MOST_MESSAGES.choose_spec ⟨_, rfl⟩) pa_nil))))))
        (pss_one (ps_ret pe_bl))
        pss_nil)
      (pss_cons (ps_set (i := 2) sc_has_state_form.nd rfl (.inl rfl) (pe_un un_neg pe_int))
      (pss_cons (ps_for PassesOwn.never rfl (pi_tup (pv 0)) (pg_name (i := 3) sc_has_state_form.nd rfl (.inl rfl))
        (pss_cons (ps_if (pt_not (pt_val (pe_call (okD_tuple_within T) (hr.mono (by decide)) (by rfl) T.tuple_within.g T.tuple_within.F.kp T.tuple_within.b .nil pass0 (pa_cons (pv 3) (pa_cons pe_int (pa_cons pe_int pa_nil))))))
          (pss_one (ps_ret pe_bl))
          pss_nil)
        (pss_cons (ps_asg (pv 3) (pg_tup rfl (pgs_cons (pg_name (i := 4) sc_has_state_form.nd rfl (.inl rfl)) (pgs_cons (pg_name (i := 5) sc_has_state_form.nd rfl (.inl rfl)) pgs_nil))))
        (pss_cons (ps_if (PW.pt (pw_or (pt_not (pt_val (pe_call (okD_whole_within T) (hr.mono (by decide)) (by rfl) T.whole_within.g T.whole_within.F.kp T.whole_within.b .nil pass0 (pa_cons (pv 4) (pa_cons (pe_op op_add (pv 2) pe_int) (pa_cons (pe_glob (v := .int 99) (by rfl) T.c_GREATEST_MESSAGE.choose_spec ⟨_, rfl⟩) pa_nil)))))) (pw_or1 (pt_not (pt_val (pe_call (okD_whole_within T) (hr.mono (by decide)) (by rfl) T.whole_within.g T.whole_within.F.kp T.whole_within.b .nil pass0 (pa_cons (pv 5) (pa_cons pe_int (pa_cons (pe_op op_sub (pv 1) pe_int) pa_nil)))))))))
          (pss_one (ps_ret pe_bl))
          pss_nil)
        (pss_one (ps_set (i := 2) sc_has_state_form.nd rfl (.inl rfl) (pv 4)))))))
      (pss_one (ps_ret pe_bl))))), ?_⟩
    refine ⟨_, rfl, v, d, 0, 5, rfl, hd, _, rfl, ?_⟩
    cases ht : tupD d 0 5 with
    | false =>
      have e : stateD n d = false := by
        cases d with
        | tuple ds =>
          have ht : decide ((0 : Int) ≤ (ds.length : Int) ∧ (ds.length : Int) ≤ 5) = false := ht
          have h5 : ¬ ds.length ≤ 5 := fun z => by
            have := of_decide_eq_false ht
            omega
          show (decide (ds.length ≤ 5) && pairsD (-1) n ds) = false
          rw [decide_eq_false h5]
          rfl
        | _ => rfl
      rw [e] at q
      exact iteT q
    | true =>
      obtain ⟨ds, rfl, _, h5⟩ := tupD_true ht
      cases hd with
      | @tup t xs _ hT hds =>
        have len := dpAll_len hds
        have e : stateD n (.tuple ds) = pairsD (-1) n ds := by
          show (decide (ds.length ≤ 5) && pairsD (-1) n ds) = _
          rw [decide_eq_true (by omega)]
          rfl
        rw [e] at q
        refine iteF ⟨1, rfl, ?_⟩
        refine ⟨_, rfl, t, rfl, ⟨_, hT⟩, for_tup (K := K) (a := t) (xs := xs) (fun k σ H' => H' = H ∧ ∃ (z : Int) (y3 y4 y5 : Option V), σ = [some (.ref t), some (.int n), some (.int z), y3, y4, y5] ∧ pairsD (-1) n ds = pairsD z n (ds.drop k))
          ⟨rfl, -1, _, _, _, rfl, rfl⟩ (fun k σ H' _ ⟨e, _⟩ => by rw [e]; exact hT) ?_ ?_⟩
        · rintro k v σ H' hv ⟨rfl, z, y3, y4, y5, rfl, hz⟩
          obtain ⟨dk, hdk, hDp⟩ := dpAll_get' hds hv
          rw [hz, pairs_drop hdk] at q
          refine ⟨_, rfl, v, dk, 2, 2, rfl, hDp, _, rfl, ?_⟩
          cases h2 : tupD dk 2 2 with
          | false =>
            rw [pairD_not h2] at q
            exact iteT q
          | true =>
            obtain ⟨l2, rfl, l2a, l2b⟩ := tupD_true h2
            match l2, l2a, l2b with
            | [x, y], _, _ =>
              cases hDp with
              | @tup c ys _ hc hys =>
                cases hys with
                | @cons vx _ _ _ hx r =>
                  cases r with
                  | @cons vy _ _ _ hy r2 =>
                    cases r2
                    refine iteF ⟨_, rfl, c, _, rfl, hc, rfl, _, _, rfl, _, _, rfl, rfl, ?_⟩
                    rw [pairD_two] at q
                    refine ⟨_, rfl, _, rfl, _, _, rfl, rfl, vx, x, _, _, rfl, hx, _, rfl, ?_⟩
                    cases hix : inD x (z + 1) 99 with
                    | false =>
                      rw [hix, if_neg (fun w => by cases w.1)] at q
                      exact iteT q
                    | true =>
                      refine iteF ⟨_, rfl, _, rfl, _, _, rfl, rfl, vy, y, _, _, rfl, hy, _, rfl, ?_⟩
                      cases hiy : inD y 0 (n - 1) with
                      | false =>
                        rw [hix, hiy, if_neg (fun w => by cases w.2)] at q
                        exact iteT q
                      | true =>
                        rw [hix, hiy, if_pos ⟨rfl, rfl⟩] at q
                        cases hx with
                        | int m => 
                          refine iteF ⟨_, rfl, rfl, m, _, _, _, rfl, ?_⟩
                          rw [hz, pairs_drop hdk, pairD_two, hix, hiy, if_pos ⟨rfl, rfl⟩]
                          rfl
                        | non => cases hix
                        | bl b => cases hix
                        | str b => cases hix
                        | lst _ _ => cases hix
                        | tup _ _ => cases hix
        · rintro σ H' ⟨rfl, z, y3, y4, y5, rfl, hz⟩
          rw [hz, len, List.drop_length] at q
          exact q
end
end Nv
set_option Elab.async false
set_option linter.all false
set_option maxRecDepth 100000
namespace Nv
open PySem PySem.Spec PyProof.Rows L2
section
variable {P : Program} {w : World} {K : PySem.W.Frag} {mg : Str → Option Value} {base : Heap}
/-! ### what is raised -/
theorem sc_init : FnScope ["self", "what"] ["self", "what"] (defScope s_init) := ⟨rfl, rfl, rfl, by decide +kernel, rfl, by decide +kernel, by decide +kernel⟩
theorem ok_init (T : Tx K mg) : FnOk P w K mg base CX0 1 T.init.f T.init.fd ["self", "what"] (sp_init K) := by
  refine T.init.F.ok sc_init (fun vs H Q E h => ?_) (fun cdv A outer s H vs Q E hr h => ?_)
  · obtain ⟨a, C, y, nm, rfl, _⟩ := h; rfl
  · obtain ⟨a, C, y, nm, rfl, ha, o, no, nn, q⟩ := h
    refine ⟨_, (pss_cons (ps_ost (pv 0) (pv 1))
      (pss_one (ps_ost (pv 0) (pe_kind (pv 0))))), ?_⟩
    refine ⟨_, rfl, _, rfl, a, C, rfl, o, no, .inl ⟨ha, fun dx nd ne => ?_⟩⟩
    refine ⟨_, rfl, a, C, dx, _, nm, rfl, upd_same, by rw [upd_ne ne, upd_same], nn, _, rfl, a, C, rfl, o, nn.nk, .inr ⟨dx, _, upd_same, by rw [upd_ne ne, upd_same], by show 1 ≤ 900; decide, ?_⟩⟩
    have e : upd (upd (upd H dx (exd dx [("what", y)])) a (exo a C (some dx))) dx (exd dx [("kind", .str nm), ("what", y)]) = upd (upd H dx (exd dx [("kind", .str nm), ("what", y)])) a (exo a C (some dx)) := by
      funext b
      by_cases h1 : b = dx
      · rw [h1, upd_same, upd_ne ne, upd_same]
      · rw [upd_ne h1]
        by_cases h2 : b = a
        · rw [h2, upd_same, upd_same]
        · rw [upd_ne h2, upd_ne h2, upd_ne h1, upd_ne h1]
    rw [e]
    exact q dx nd ne

def sp_check_formX (K : PySem.W.Frag) (C : Addr) : Sp := fun vs H Q E => ∃ (v : V) (d : PyData), vs = [v] ∧ Dp K H v d ∧ (formErr d = none → Q .non H) ∧ ∀ e, formErr d = some e → ∀ dx, H dx = none → E (.ref C) (some dx) (upd H dx (xdW "BadBook" (.int e)))
theorem okX_check_form (T : Tx K mg) : FnOk P w K mg base (L2.CX P w) 4 T.check_form.f T.check_form.fd ["thing"] (sp_check_formX K T.x_BadBook.C) := by
  refine T.check_form.F.okX sc_check_form (fun vs H Q E h => ?_) (fun cdv A outer s H vs Q E hr h => ?_)
  · obtain ⟨v, d, rfl, _⟩ := h; rfl
  · obtain ⟨v, d, rfl, hd, q, qe⟩ := h
    refine ⟨_, (pss_cons (ps_if (pt_not (pt_val (pe_call (okD_tuple_within T) (hr.mono (by decide)) (by rfl) T.tuple_within.g T.tuple_within.F.kp T.tuple_within.b .nil pass0 (pa_cons (pv 0) (pa_cons pe_int (pa_cons (pe_glob (v := .int 8) (by rfl) T.c_MOST_STATES.choose_spec ⟨_, rfl⟩) pa_nil))))))
        (pss_one (ps_raise rfl (takes_of rfl rfl rfl rfl) (pmk_X T.x_BadBook T.init.ti (ok_init T) (hr.mono (by decide)) T.init.b (by rfl) (pe_un un_neg pe_int))))
        pss_nil)
      (pss_one (ps_for (passes_of rfl) rfl (pi_range1 (by rfl) T.n_range (pa_cons (pe_callB call_len_seq (by rfl) T.n_len PySem.boot_len (pa_cons (pv 0) pa_nil)) pa_nil)) (pg_name (i := 1) sc_check_form.nd rfl (.inl rfl))
        (pss_one (ps_if (pt_not (pt_val (pe_call (okD_has_state_form T) (hr.mono (by decide)) (by rfl) T.has_state_form.g T.has_state_form.F.kp T.has_state_form.b .nil pass0 (pa_cons (pe_ix ix_tup (pv 0) (pv 1) (fun _ _ => rfl)) (pa_cons (pe_callB call_len_seq (by rfl) T.n_len PySem.boot_len (pa_cons (pv 0) pa_nil)) pa_nil)))))
          (pss_one (ps_raise rfl (takes_of rfl rfl rfl rfl) (pmk_X T.x_BadBook T.init.ti (ok_init T) (hr.mono (by decide)) T.init.b (by rfl) (pv 1))))
          pss_nil))))), ?_⟩
    refine ⟨_, rfl, v, d, 1, 8, rfl, hd, _, rfl, ?_⟩
    cases ht : tupD d 1 8 with
    | false =>
      have e : formErr d = some (-1) := by
        cases d with
        | tuple ds =>
          have ht : decide ((1 : Int) ≤ (ds.length : Int) ∧ (ds.length : Int) ≤ 8) = false := ht
          show (if 1 ≤ ds.length ∧ ds.length ≤ 8 then firstBad ds.length ds 0 else some (-1)) = some (-1)
          rw [if_neg]
          intro z
          have := of_decide_eq_false ht
          omega
        | _ => rfl
      exact iteT ⟨1, rfl, fun dx nd => qe _ e dx nd⟩
    | true =>
      obtain ⟨ds, rfl, l1, l8⟩ := tupD_true ht
      cases hd with
      | @tup t xs _ hT hds =>
        have len := dpAll_len hds
        have e : formErr (.tuple ds) = firstBad ds.length ds 0 := by
          show (if 1 ≤ ds.length ∧ ds.length ≤ 8 then firstBad ds.length ds 0 else some (-1)) = _
          rw [if_pos ⟨by omega, by omega⟩]
        rw [e] at q qe
        refine iteF ⟨_, rfl, t, _, rfl, .inr hT, _, rfl, by omega, by omega, for_range (lo := 0) (n := _) (fun k σ H' => H' = H ∧ ∃ y : Option V, σ = [some (.ref t), y] ∧ firstBad ds.length ds 0 = firstBad ds.length (ds.drop k) k) ⟨rfl, _, rfl, rfl⟩ ?_ ?_⟩
        · rintro k σ H' hk ⟨rfl, y, rfl, hb⟩
          have hk : k < ds.length := by
            have : ((xs.length : Int)).toNat = xs.length := Int.toNat_natCast _
            omega
          simp only [Int.zero_add]
          obtain ⟨vk, hvk, hDk⟩ := dpAll_get hds (List.getElem?_eq_getElem hk)
          have step : firstBad ds.length (ds.drop k) k = if stateD ds.length ds[k] = true then firstBad ds.length (ds.drop (k + 1)) (k + 1) else some (k : Int) := by
            rw [List.drop_eq_getElem_cons hk]
            rfl
          refine ⟨_, rfl, _, rfl, t, _, _, _, rfl, rfl, hT, atI_nat hvk, _, rfl, t, _, rfl, .inr hT, vk, ds[k], _, rfl, hDk, _, rfl, ?_⟩
          rw [len]
          cases hs : stateD ds.length ds[k] with
          | true =>
            rw [hs, if_pos rfl] at step
            exact iteF ⟨rfl, _, rfl, hb.trans step⟩
          | false =>
            rw [hs, if_neg (by simp)] at step
            exact iteT ⟨_, rfl, fun dx nd => qe _ (hb.trans step) dx nd⟩
        · rintro σ H' ⟨rfl, y, rfl, hb⟩
          have : ((xs.length : Int)).toNat = ds.length := by omega
          rw [this, List.drop_length] at hb
          exact q hb
end
end Nv
set_option Elab.async false
set_option linter.all false
set_option maxRecDepth 100000
namespace Nv
open PySem PySem.Spec PyProof.Rows L2
section
variable {P : Program} {w : World} {K : PySem.W.Frag} {mg : Str → Option Value} {base : Heap}
/-! ### books as data -/
def stD (s : State) : PyData := .tuple (s.map mvD)
def bookD (b : Book) : PyData := .tuple (b.map stD)
theorem pairs_st {n : Nat} : ∀ (s : State) (last : Int), (s.map (·.1)).Pairwise (· < ·) → (∀ p ∈ s, last < (p.1 : Int)) → (∀ p ∈ s, p.1 ≤ 99) → (∀ p ∈ s, p.2 < n) → pairsD last n (s.map mvD) = true
  | [], _, _, _, _, _ => rfl
  | p :: r, last, h1, h2, h3, h4 => by
    rw [List.map_cons, List.pairwise_cons] at h1
    have a := h2 p (by simp)
    have b := h3 p (by simp)
    have c := h4 p (by simp)
    have e : pairD last n (mvD p) = some (p.1 : Int) := by
      show (if last + 1 ≤ (p.1 : Int) ∧ (p.1 : Int) ≤ 99 ∧ (0 : Int) ≤ p.2 ∧ (p.2 : Int) ≤ n - 1 then some (p.1 : Int) else none) = _
      rw [if_pos ⟨by omega, by omega, by omega, by omega⟩]
    rw [List.map_cons, pairs_cons, e]
    refine pairs_st r (p.1 : Int) h1.2 (fun q hq => ?_) (fun q hq => h3 q (List.mem_cons_of_mem _ hq)) (fun q hq => h4 q (List.mem_cons_of_mem _ hq))
    have := h1.1 q.1 (List.mem_map.mpr ⟨q, hq, rfl⟩)
    omega
theorem state_ok {n : Nat} {s : State} (h : StOk n s) : stateD n (stD s) = true := by
  show (decide ((s.map mvD).length ≤ 5) && pairsD (-1) n (s.map mvD)) = true
  rw [pairs_st s (-1) h.rise (fun p _ => by omega) h.msg h.to, List.length_map, decide_eq_true h.few]
  rfl
theorem first_ok {n : Nat} : ∀ (l : List PyData) (i : Nat), (∀ d ∈ l, stateD n d = true) → firstBad n l i = none
  | [], _, _ => rfl
  | d :: r, i, h => by
    show (if stateD n d = true then firstBad n r (i + 1) else some (i : Int)) = none
    rw [if_pos (h d (by simp)), first_ok r (i + 1) fun e he => h e (List.mem_cons_of_mem _ he)]
theorem form_none {b : Book} (fb : FormB b) : formErr (bookD b) = none := by
  show (if 1 ≤ (b.map stD).length ∧ (b.map stD).length ≤ 8 then firstBad (b.map stD).length (b.map stD) 0 else some (-1)) = none
  rw [List.length_map, if_pos ⟨fb.one, fb.eight⟩]
  refine first_ok _ _ fun d hd => ?_
  obtain ⟨s, hs, rfl⟩ := List.mem_map.mp hd
  exact state_ok (fb.st s hs)
theorem first_at {n : Nat} : ∀ (l : List PyData) (i k : Nat) (d : PyData), l[k]? = some d → stateD n d = false → (∀ j e, j < k → l[j]? = some e → stateD n e = true) → firstBad n l i = some ((i + k : Nat) : Int)
  | [], _, _, _, h, _, _ => by simp at h
  | d :: r, i, 0, e, h, hb, _ => by
    cases h
    show (if stateD n d = true then firstBad n r (i + 1) else some (i : Int)) = _
    rw [if_neg (by rw [hb]; simp)]
    rfl
  | d :: r, i, k + 1, e, h, hb, hok => by
    show (if stateD n d = true then firstBad n r (i + 1) else some (i : Int)) = _
    rw [if_pos (hok 0 d (Nat.zero_lt_succ _) rfl), first_at r (i + 1) k e (by simpa using h) hb fun j f hj hf => hok (j + 1) f (by omega) (by simpa using hf)]
    congr 2
    omega
theorem mv_of {K : PySem.W.Frag} {H : Hp} : ∀ {s : State} {vs : List V}, DpAll K H vs (s.map mvD) → ∃ ps : List Addr, vs = ps.map V.ref ∧ Paired (MvV K H) ps s
  | [], _, .nil => ⟨[], rfl, .nil⟩
  | p :: r, _, .cons h t => by
    obtain ⟨ps, e, hp⟩ := mv_of t
    cases h with
    | tup hc hds =>
      cases hds with
      | cons h1 r1 =>
        cases r1 with
        | cons h2 r2 =>
          cases r2
          cases h1
          cases h2
          exact ⟨_ :: ps, by rw [e]; rfl, .cons hc hp⟩
theorem bk_of {K : PySem.W.Frag} {H : Hp} : ∀ {b : Book} {vs : List V}, DpAll K H vs (b.map stD) → Paired (StW K H) vs b
  | [], _, .nil => .nil
  | s :: r, _, .cons h t => by
    cases h with
    | tup hc hds =>
      obtain ⟨ps, rfl, hp⟩ := mv_of hds
      exact .cons ⟨_, ps, rfl, hc, hp⟩ (bk_of t)
theorem BkW.of {K : PySem.W.Frag} {H : Hp} {v : V} {b : Book} (h : Dp K H v (bookD b)) : BkW K H v b := by
  cases h with
  | tup hc hds => exact ⟨_, _, rfl, hc, bk_of hds⟩
/-! ### what made_book raises -/
/-- the first state to which no row comes -/
def StrayAt (b : Book) (s : Nat) : Prop := s < b.length ∧ ¬ Rch b s ∧ ∀ t, t < s → Rch b t
theorem Met.rch {b : Book} {F : List Nat} (m : Met b F) : ∀ (n j s : Nat), j ≤ n → F[j]? = some s → Rch b s := by
  intro n
  induction n with
  | zero =>
    intro j s hj e
    have : j = 0 := by omega
    subst this
    rw [m.zero] at e
    cases e
    exact .zero
  | succ n ih =>
    intro j s hj e
    by_cases h0 : j = 0
    · subst h0
      rw [m.zero] at e
      cases e
      exact .zero
    · obtain ⟨i, s', hi, hs', p, hp, rfl⟩ := m.from_ j s e h0
      exact .step (ih i s' (by omega) hs') hp
theorem Met.iff {b : Book} {F : List Nat} (m : Met b F) (s : Nat) : s ∈ F ↔ Rch b s := by
  constructor
  · intro h
    obtain ⟨j, hj, e⟩ := List.mem_iff_getElem.mp h
    exact m.rch j j s (Nat.le_refl _) (by rw [List.getElem?_eq_getElem hj, e])
  · exact m.all
/-- refused: a wrong form, or a stray -/
inductive Ref (CB CS : Addr) (d : PyData) : Addr → Int → Prop
  | form {e : Int} : formErr d = some e → Ref CB CS d CB e
  | stray {b : Book} {s : Nat} : d = bookD b → FormB b → StrayAt b s → Ref CB CS d CS s
/-- the way out of a refusal -/
def Outs (H : Hp) (E : XK) (C : Addr) (e : Int) : Prop := ∀ dx H', H dx = none → XdAt H' dx (.int e) → Ext [] H H' → E (.ref C) (some dx) H'
def sp_refused (K : PySem.W.Frag) (CB CS : Addr) : Sp := fun vs H _ E => ∃ (v : V) (d : PyData) (C : Addr) (e : Int), vs = [v] ∧ Dp K H v d ∧ Ref CB CS d C e ∧ Outs H E C e

theorem okX_made_book (T : Tx K mg) : FnOk P w K mg base (L2.CX P w) 5 T.made_book.f T.made_book.fd ["thing"] (sp_refused K T.x_BadBook.C T.x_Stray.C) := by
  refine T.made_book.F.okX sc_made_book (fun vs H Q E h => ?_) (fun cdv A outer s H vs Q E hr h => ?_)
  · obtain ⟨v, d, C, e, rfl, _⟩ := h; rfl
  · obtain ⟨v, d, C, e, rfl, hd, href, q⟩ := h
    refine ⟨_, (pss_cons (ps_expr (pe_call (okX_check_form T) (hr.mono (by decide)) (by rfl) T.check_form.g T.check_form.F.kp T.check_form.b .nil (passes_call (takes_of rfl rfl rfl rfl) (fun _ _ _ _ h => h)) (pa_cons (pv 0) pa_nil)))
      (pss_cons (ps_set (i := 1) sc_made_book.nd rfl (.inl rfl) (pe_call (ok_first_rows T) (hr.mono (by decide)) (by rfl) T.first_rows.g T.first_rows.F.kp T.first_rows.bD.choose_spec.2 T.first_rows.bD.choose_spec.1 pass0 (pa_cons (pv 0) pa_nil)))
      (pss_cons (ps_for (passes_of rfl) rfl (pi_range1 (by rfl) T.n_range (pa_cons (pe_callB call_len_seq (by rfl) T.n_len PySem.boot_len (pa_cons (pv 0) pa_nil)) pa_nil)) (pg_name (i := 2) sc_made_book.nd rfl (.inl rfl))
        (pss_one (ps_if (pt_cmp (pc_dnotin (hu_of hr) (pv 2) (pv 1)))
          (pss_one (ps_raise rfl (takes_of rfl rfl rfl rfl) (pmk_X T.x_Stray T.init.ti (ok_init T) (hr.mono (by decide)) T.init.b (by rfl) (pv 2))))
          pss_nil)))
      (PSs.nox (pss_one (ps_ret (pv 0))))))), ?_⟩
    refine ⟨_, rfl, v, d, rfl, hd, ?_⟩
    cases href with
    | form he => exact ⟨fun h => (by rw [he] at h; cases h), fun e2 he2 dx nd => (by rw [he] at he2; cases he2; exact q dx _ nd ⟨_, upd_same⟩ (.new nd))⟩
    | @stray b st eb fb hst =>
      subst eb
      have fn := form_none fb
      refine ⟨fun _ => ?_, fun e2 he2 => (by rw [fn] at he2; cases he2)⟩
      have hw := BkW.of hd
      refine ⟨_, rfl, v, b, rfl, hw, fb, fun F kvs dd H' mt hk hdd e => ?_⟩
      obtain ⟨a, ls, rfl, ha, hls⟩ := hw
      have llen := Paired.len hls
      have h8 := fb.eight
      obtain ⟨s1, s2, s3⟩ := hst
      refine ⟨_, rfl, a, _, rfl, .inr (e.tup Lsts.nil ha), _, rfl, by omega, by omega, for_range (lo := 0) (n := _) (fun k σ H2 => H2 = H' ∧ k ≤ st ∧ ∃ y : Option V, σ = [some (.ref a), some (.ref dd), y]) ⟨rfl, Nat.zero_le _, _, rfl⟩ ?_ ?_⟩
      · rintro k σ H2 hk' ⟨rfl, hle, y, rfl⟩
        simp only [Int.zero_add]
        refine ⟨_, rfl, _, rfl, dd, _, rfl, DGet.k (k := kN k) hdd, _, rfl, ?_⟩
        rw [valV_key hk]
        by_cases hks : k = st
        · subst hks
          rw [decide_eq_false (fun z => s2 ((mt.iff _).mp z))]
          refine iteT ⟨_, rfl, fun dx nd => q dx _ (e.free nd) ⟨_, upd_same⟩ (e.put2 nd)⟩
        · rw [decide_eq_true ((mt.iff _).mpr (s3 k (by omega)))]
          exact iteF ⟨rfl, by omega, _, rfl⟩
      · rintro σ H2 ⟨rfl, hle, y, rfl⟩
        exfalso
        have : ((ls.length : Int)).toNat = ls.length := Int.toNat_natCast _
        omega
end
end Nv
set_option Elab.async false
set_option linter.all false
set_option maxRecDepth 100000
namespace Nv
open PySem PySem.Spec PyProof.Rows L2
section
variable {P : Program} {w : World} {K : PySem.W.Frag} {mg : Str → Option Value} {base : Heap}
/-! ### things that are no books -/
def six0 : List PyData := (List.range 6).map fun m : Nat => .tuple [.int (m : Int), .int 0]
def dat1 : PyData := .tuple six0
def lenO (n : Nat) (d : PyData) (σ : L2.St) : Option PyData := if σ.length = n then some d else none
theorem dp_six {K : PySem.W.Frag} {H : Hp} : ∀ {xs : List V} {l : List Nat}, Paired (fun (v : V) (m : Nat) => ∃ t, v = .ref t ∧ H t = some (.tup [nV m, .int 0])) xs l → DpAll K H xs (l.map fun m : Nat => .tuple [.int (m : Int), .int 0])
  | _, _, .nil => .nil
  | _, _, .cons r t => by
    obtain ⟨a, rfl, h⟩ := r
    exact .cons (.tup (.of h) (.cons (.int _) (.cons (.int _) .nil))) (dp_six t)
theorem cutOne (xs : List V) : cutV xs none (some 1) = xs.take 1 := by
  unfold cutV
  cases xs with
  | nil => simp
  | cons x r => simp [HT.sIx]
theorem dpAll_take {K : PySem.W.Frag} {H : Hp} : ∀ {vs : List V} {ds : List PyData} (n : Nat), DpAll K H vs ds → DpAll K H (vs.take n) (ds.take n)
  | _, _, 0, _ => by simp; exact .nil
  | _, _, n + 1, .nil => by simp; exact .nil
  | _, _, n + 1, .cons r t => by simp; exact .cons r (dpAll_take n t)
theorem sc_law_win_no_books : FnScope ["pool", "book", "at", "states", "bad", "found", "some", "message", "thing"] ["pool", "book"] (defScope s_law_win_no_books) := ⟨rfl, rfl, rfl, by decide +kernel, rfl, by decide +kernel, by decide +kernel⟩
/-- a pair of a thing that is refused and what is heard of it -/
def Entry (K : PySem.W.Frag) (CB CS : Addr) (H : Hp) (v : V) : Prop := ∃ (t : Addr) (vt : V) (d : PyData) (C : Addr) (e : Int) (nm : Str), v = .ref t ∧ SqT K H t [vt, .str (nm ++ toString e)] ∧ Dp K H vt d ∧ noL d = true ∧ Ref CB CS d C e ∧ ((C = CB ∧ nm = "BadBook ") ∨ (C = CS ∧ nm = "Stray ")) ∧ -1 ≤ e ∧ e ≤ 8
theorem Entry.ext {K : PySem.W.Frag} {CB CS : Addr} {L : List Addr} {H H' : Hp} {v : V} (h : Entry K CB CS H v) (e : Ext L H H') (l : Lsts L H) : Entry K CB CS H' v := by
  obtain ⟨t, vt, d, C, x, nm, rfl, h1, h2, h3, r⟩ := h
  exact ⟨t, vt, d, C, x, nm, rfl, e.tup l h1, Dp.extL e l h2 h3, h3, r⟩
theorem Entry.ext0 {K : PySem.W.Frag} {CB CS : Addr} {H H' : Hp} {v : V} (h : Entry K CB CS H v) (e : Ext [] H H') : Entry K CB CS H' v := h.ext e Lsts.nil
def badA (n : Int) : List PyData := [.none, .int 5, .tuple [.tuple [.int 0]], .tuple [.tuple [.int 0, .int 0, .int 0]], .tuple [.int 0, .int 0], .tuple [.tuple [.int 100, .int 0]], .tuple [.tuple [.int (-1), .int 0]], .tuple [.tuple [.bool true, .int 0]], .tuple [.tuple [.int 0, .int n]], .tuple [.tuple [.int 0, .int (-1)]]]
def badB : List PyData := [.tuple [.tuple [.int 0, .bool false]], .tuple [.tuple [.int 1, .int 0], .tuple [.int 0, .int 0]], .tuple [.tuple [.int 0, .int 0], .tuple [.int 0, .int 0]], dat1, .tuple [.none]]
theorem bad_all (n : Int) : ∀ d ∈ badA n ++ badB, stateD n d = false := by
  intro d hd
  rcases List.mem_append.mp hd with hd | hd
  · simp only [badA, List.mem_cons, List.not_mem_nil, or_false] at hd
    rcases hd with rfl | rfl | rfl | rfl | rfl | rfl | rfl | rfl | rfl | rfl <;> simp [stateD, pairsD, pairD]
    rw [if_neg (by omega)]
  · simp only [badB, List.mem_cons, List.not_mem_nil, or_false] at hd
    rcases hd with rfl | rfl | rfl | rfl | rfl
    · simp [stateD, pairsD, pairD]
    · by_cases h : 1 ≤ n <;> simp [stateD, pairsD, pairD, h]
    · by_cases h : 1 ≤ n <;> simp [stateD, pairsD, pairD, h]
    · rfl
    · simp [stateD, pairsD, pairD]
theorem bad_noL (n : Int) : ∀ d ∈ badA n ++ badB, noL d = true := by
  intro d hd
  rcases List.mem_append.mp hd with hd | hd
  · simp only [badA, List.mem_cons, List.not_mem_nil, or_false] at hd
    rcases hd with rfl | rfl | rfl | rfl | rfl | rfl | rfl | rfl | rfl | rfl <;> rfl
  · simp only [badB, List.mem_cons, List.not_mem_nil, or_false] at hd
    rcases hd with rfl | rfl | rfl | rfl | rfl <;> rfl
def things : List PyData := [.none, .int 3, .tuple [], .str "book", .tuple (List.replicate 9 (.tuple []))]
theorem things_bad : ∀ d ∈ things, formErr d = some (-1) ∧ noL d = true := by
  intro d hd
  simp only [things, List.mem_cons, List.not_mem_nil, or_false] at hd
  rcases hd with rfl | rfl | rfl | rfl | rfl <;> exact ⟨rfl, rfl⟩
theorem dp_sts {K : PySem.W.Frag} {H : Hp} : ∀ {vs : List V} {b : Book}, Paired (StV K H) vs b → DpAll K H vs (b.map stD)
  | _, _, .nil => .nil
  | _, _, .cons r t => by
    obtain ⟨c, ps, rfl, h1, h2⟩ := r
    exact .cons (.tup h1.sq (dp_mvs h2)) (dp_sts t)
theorem DpAll.set {K : PySem.W.Frag} {H : Hp} {v : V} {d : PyData} (h : Dp K H v d) : ∀ {vs : List V} {ds : List PyData} (i : Nat), DpAll K H vs ds → DpAll K H (vs.set i v) (ds.set i d)
  | _, _, _, .nil => .nil
  | _, _, 0, .cons _ t => .cons h t
  | _, _, i + 1, .cons r t => .cons r (DpAll.set h i t)
theorem noLs_iff : ∀ {ds : List PyData}, noLs ds = true ↔ ∀ d ∈ ds, noL d = true
  | [] => by simp [noLs]
  | d :: r => by simp [noLs, noLs_iff (ds := r)]
theorem noL_st (s : State) : noL (stD s) = true := by
  show noLs (s.map mvD) = true
  rw [noLs_iff]
  intro d hd
  obtain ⟨p, _, rfl⟩ := List.mem_map.mp hd
  rfl
theorem mem_set_or {α : Type} {l : List α} {i : Nat} {x y : α} (h : y ∈ l.set i x) : y ∈ l ∨ y = x := List.mem_or_eq_of_mem_set h
theorem form_bad {b : Book} (fb : FormB b) {k : Nat} (hk : k < b.length) {d : PyData} (hd : stateD b.length d = false) : formErr (.tuple (((b.map stD).set (b.length - 1) .none).set k d)) = some (k : Int) := by
  have hl : (((b.map stD).set (b.length - 1) .none).set k d).length = b.length := by simp
  show (if 1 ≤ (((b.map stD).set (b.length - 1) PyData.none).set k d).length ∧ _ ≤ 8 then firstBad _ _ 0 else some (-1)) = _
  rw [if_pos ⟨by rw [hl]; exact fb.one, by rw [hl]; exact fb.eight⟩, hl, first_at _ 0 k d (List.getElem?_set_self (by simpa using hk)) hd fun j e hj he => ?_]
  · simp
  · rw [List.getElem?_set_ne (by omega), List.getElem?_set_ne (by omega), List.getElem?_map, mvs_lt (by omega)] at he
    cases he
    exact state_ok (fb.ok (by omega))
/-- one more state behind a book -/
theorem mvs_app {b : Book} {s : Nat} {x : State} (h : s < b.length) : mvs (b ++ [x]) s = mvs b s := by
  refine mvs_of ?_
  rw [List.getElem?_append_left h]
  exact mvs_lt h
theorem rch_app {b : Book} {x : State} (fb : FormB b) {s : Nat} (h : Rch b s) : Rch (b ++ [x]) s := by
  induction h with
  | zero => exact .zero
  | @step s p _ hp ih =>
    have hs : s < b.length := by
      by_cases h : s < b.length
      · exact h
      · rw [mvs_out (by omega)] at hp
        cases hp
    exact .step ih (by rw [mvs_app hs]; exact hp)
theorem rch_old {b : Book} {x : State} (fb : FormB b) {s : Nat} (h : Rch (b ++ [x]) s) : s < b.length := by
  induction h with
  | zero => exact fb.one
  | step _ hp ih =>
    rw [mvs_app ih] at hp
    exact fb.to hp
theorem form_app {b : Book} {x : State} (fb : FormB b) (h8 : b.length < 8) (hx : StOk (b.length + 1) x) : FormB (b ++ [x]) := by
  refine ⟨by simp, by simp; omega, fun s hs => ?_⟩
  rw [List.length_append]
  rcases List.mem_append.mp hs with hs | hs
  · have := fb.st s hs
    exact ⟨this.few, this.rise, this.msg, fun p hp => by have := this.to p hp; show p.2 < b.length + 1; omega⟩
  · rw [List.mem_singleton.mp hs]
    exact hx
theorem stray_app {b : Book} {x : State} (ok : OkB b) : StrayAt (b ++ [x]) b.length := by
  refine ⟨by simp, fun h => ?_, fun t ht => rch_app ok.toFormB (ok.reach t ht)⟩
  have := rch_old ok.toFormB h
  omega
theorem bookD_app (b : Book) (x : State) : bookD (b ++ [x]) = .tuple (b.map stD ++ [stD x]) := by
  unfold bookD
  rw [List.map_append]
  rfl
theorem form_two {b : Book} (fb : FormB b) (h6 : b.length ≤ 6) : formErr (.tuple (b.map stD ++ [.tuple [], .none])) = some ((b.length + 1 : Nat) : Int) := by
  have hl : (b.map stD ++ [PyData.tuple [], PyData.none]).length = b.length + 2 := by simp
  show (if 1 ≤ (b.map stD ++ [PyData.tuple [], PyData.none]).length ∧ _ ≤ 8 then firstBad _ _ 0 else some (-1)) = _
  rw [if_pos ⟨by rw [hl]; omega, by rw [hl]; omega⟩, hl, first_at _ 0 (b.length + 1) .none ?_ rfl fun j e hj he => ?_]
  · simp
  · rw [List.getElem?_append_right (by simp)]
    simp
  · by_cases hjb : j < b.length
    · rw [List.getElem?_append_left (by simpa using hjb), List.getElem?_map, mvs_lt hjb] at he
      cases he
      have := fb.ok hjb
      exact state_ok ⟨this.few, this.rise, this.msg, fun p hp => by have := this.to p hp; omega⟩
    · have : j = b.length := by omega
      subst this
      rw [List.getElem?_append_right (by simp)] at he
      simp at he
      rw [← he]
      rfl
def sp_law_win_no_books (K : PySem.W.Frag) (CB CS : Addr) : Sp := fun vs H Q _ => ∃ (p l : Addr) (v : V) (b : Book), vs = [.ref p, v] ∧ PoolAt H p l ∧ BkV K H v b ∧ OkB b ∧ ∀ (t : Addr) (xs : List V) (H' : Hp), H' t = some (.lst xs) → (∀ x ∈ xs, Entry K CB CS H' x) → PoolAt H' p l → Ext [p, l] H H' → Q (.ref t) H'
def spN_law_win_no_books (K : PySem.W.Frag) (CB CS : Addr) : Sp := fun vs H Q _ => ∃ (p l : Addr) (v : V) (b : Book), vs = [.ref p, v] ∧ PoolAt H p l ∧ BkV K H v b ∧ OkB b ∧ ∀ (t : Addr) (xs : List V) (H' : Hp), H' t = some (.lst xs) → (∀ x ∈ xs, Entry K CB CS H' x) → xs.length ≤ 8 → PoolAt H' p l → Ext [p, l] H H' → Q (.ref t) H'
theorem okN_law_win_no_books (T : Tx K mg) : FnOk P w K mg base CX0 3 T.law_win_no_books.f T.law_win_no_books.fd ["pool", "book"] (spN_law_win_no_books K T.x_BadBook.C T.x_Stray.C) := by
  refine T.law_win_no_books.F.ok sc_law_win_no_books (fun vs H Q E h => ?_) (fun cdv A outer s H vs Q E hr h => ?_)
  · obtain ⟨p, l, v, b, rfl, _⟩ := h; rfl
  · obtain ⟨p, l, v, b, rfl, hP, hb, ok, q⟩ := h
    obtain ⟨a, ls, rfl, ha, hls⟩ := id hb
    have llen := Paired.len hls
    have fb := ok.toFormB
    have h8 := fb.eight
    have h1 := fb.one
    refine ⟨_, (pss_cons (ps_par (i := 2) (j := 3) (by rfl) sc_law_win_no_books.nd rfl rfl (by decide) rfl rfl (pa_cons (pe_call (ok_law_draw T) (hr.mono (by decide)) (by rfl) T.law_draw.g T.law_draw.F.kp T.law_draw.b .nil pass0 (pa_cons (pv 0) (pa_cons (pe_callB call_len_seq (by rfl) T.n_len PySem.boot_len (pa_cons (pv 1) pa_nil)) pa_nil))) (pa_cons (pe_callB call_len_seq (by rfl) T.n_len PySem.boot_len (pa_cons (pv 1) pa_nil)) pa_nil)) (by rfl))
      (pss_cons (ps_set (i := 4) sc_law_win_no_books.nd rfl (.inl rfl) (pd_lst (K := K) (pds_cons pd_none (pds_cons pd_int (pds_cons (pd_tup (K := K) (pds_cons (pd_tup (K := K) (pds_cons pd_int pds_nil)) pds_nil)) (pds_cons (pd_tup (K := K) (pds_cons (pd_tup (K := K) (pds_cons pd_int (pds_cons pd_int (pds_cons pd_int pds_nil)))) pds_nil)) (pds_cons (pd_tup (K := K) (pds_cons pd_int (pds_cons pd_int pds_nil))) (pds_cons (pd_tup (K := K) (pds_cons (pd_tup (K := K) (pds_cons pd_int (pds_cons pd_int pds_nil))) pds_nil)) (pds_cons (pd_tup (K := K) (pds_cons (pd_tup (K := K) (pds_cons pd_neg (pds_cons pd_int pds_nil))) pds_nil)) (pds_cons (pd_tup (K := K) (pds_cons (pd_tup (K := K) (pds_cons pd_bool (pds_cons pd_int pds_nil))) pds_nil)) (pds_cons (pd_tup (K := K) (pds_cons (pd_tup (K := K) (pds_cons pd_int (pds_cons (pd_var (i := 3) (pv 3)) pds_nil))) pds_nil)) (pds_cons (pd_tup (K := K) (pds_cons (pd_tup (K := K) (pds_cons pd_int (pds_cons pd_neg pds_nil))) pds_nil)) pds_nil))))))))))))
      (pss_cons (ps_set (i := 4) sc_law_win_no_books.nd rfl (.inl rfl) (pe_op op_cat (pv 4) (pd_lst (K := K) (pds_cons (pd_tup (K := K) (pds_cons (pd_tup (K := K) (pds_cons pd_int (pds_cons pd_bool pds_nil))) pds_nil)) (pds_cons (pd_tup (K := K) (pds_cons (pd_tup (K := K) (pds_cons pd_int (pds_cons pd_int pds_nil))) (pds_cons (pd_tup (K := K) (pds_cons pd_int (pds_cons pd_int pds_nil))) pds_nil))) (pds_cons (pd_tup (K := K) (pds_cons (pd_tup (K := K) (pds_cons pd_int (pds_cons pd_int pds_nil))) (pds_cons (pd_tup (K := K) (pds_cons pd_int (pds_cons pd_int pds_nil))) pds_nil))) (pds_cons (peW (t' := tDat K (lenO 9 dat1)) (pe_callTy call_tupZ (by rfl) T.n_tuple (by decide +kernel) (pa_cons (pe_lc (own := [("message", 7)]) rfl sc_law_win_no_books.nd (pi_range1 (by rfl) T.n_range (pa_cons pe_int pa_nil)) (blkOk_by (own := [("message", 7)]) (N := ["pool", "book", "at", "states", "bad", "found", "some", "message", "thing"]) (sc := defScope s_law_win_no_books) (by decide +kernel)) (fun _ _ _ _ _ => (pg_name (i := 7) sc_law_win_no_books.nd rfl (.inl rfl))) (fun _ _ _ _ _ => pts_nil) (fun _ _ _ _ _ => (pe_tup (pa_cons (pv 7) (pa_cons pe_int pa_nil))))) pa_nil)) ?dat1) (pds_cons (pd_tup (K := K) (pds_cons pd_none pds_nil)) pds_nil))))))))
      (pss_cons (ps_setLc (i := 5) (own := [("thing", 8)]) rfl sc_law_win_no_books.nd rfl rfl (sw_true rfl rfl rfl (by decide +kernel)) (pi_list (pd_lst (K := K) (pds_cons pd_none (pds_cons pd_int (pds_cons (pd_tup (K := K) pds_nil) (pds_cons pd_str (pds_cons (pd_rep (pds_cons (pd_tup (K := K) pds_nil) pds_nil)) pds_nil))))))) (blkOk_by (own := [("thing", 8)]) (N := ["pool", "book", "at", "states", "bad", "found", "some", "message", "thing"]) (sc := defScope s_law_win_no_books) (by decide +kernel)) (fun _ _ _ _ _ => (pg_name (i := 8) sc_law_win_no_books.nd rfl (.inl rfl))) (fun _ _ _ _ _ => pts_nil) (fun _ _ _ _ _ => (pe_tup (pa_cons (pv 8) (pa_cons pe_str pa_nil)))))
      (pss_cons (ps_set (i := 6) sc_law_win_no_books.nd rfl (.inl rfl) (pe_callTy call_list_of (by rfl) T.n_list (by decide +kernel) (pa_cons (pv 1) pa_nil)))
      (pss_cons (ps_asg pe_non (pg_sub (pv 6) (pe_un un_neg pe_int) set_list))
      (pss_cons (ps_asg (pe_call (ok_law_pick T) (hr.mono (by decide)) (by rfl) T.law_pick.g T.law_pick.F.kp T.law_pick.b .nil pass0 (pa_cons (pv 0) (pa_cons (pv 4) pa_nil))) (pg_sub (pv 6) (pv 2) set_list))
      (pss_cons (ps_expr (pe_bm PySem.F.plainAttrs_list PySem.F.slot_list_append PySem.F.type_list_append mt_append (pv 5) (pa_cons (pe_tup (pa_cons (pe_callTy call_tupZ (by rfl) T.n_tuple (by decide +kernel) (pa_cons (pv 6) pa_nil)) (pa_cons (pe_op op_add_str pe_str (pe_callB SkE.call_repr_int (by rfl) T.n_repr (by decide +kernel) (pa_cons (pv 2) pa_nil))) pa_nil))) pa_nil)))
      (C8.pss_cut (ps_if (pt_cmpR op_lt (pv 3) pe_int (nomark _))
        (pss_cons (ps_expr (pe_bm PySem.F.plainAttrs_list PySem.F.slot_list_append PySem.F.type_list_append mt_append (pv 5) (pa_cons (pe_tup (pa_cons (pe_op op_catA (pv 1) (pd_tup (K := K) (pds_cons (pd_tup (K := K) (pds_cons (pd_tup (K := K) (pds_cons pd_int (pds_cons (pd_var (i := 3) (pv 3)) pds_nil))) pds_nil)) pds_nil))) (pa_cons (pe_op op_add_str pe_str (pe_callB SkE.call_repr_int (by rfl) T.n_repr (by decide +kernel) (pa_cons (pv 3) pa_nil))) pa_nil))) pa_nil)))
        (pss_one (ps_expr (pe_bm PySem.F.plainAttrs_list PySem.F.slot_list_append PySem.F.type_list_append mt_append (pv 5) (pa_cons (pe_tup (pa_cons (pe_op op_catA (pv 1) (pe_slice sl_tupA (pd_tup (K := K) (pds_cons (pd_tup (K := K) pds_nil) (pds_cons pd_none pds_nil))) po_none (po_some (pe_callB (call_min2 rfl) (by rfl) T.n_min (by decide +kernel) (pa_cons pe_int (pa_cons (pe_op op_sub pe_int (pv 3)) pa_nil)))))) (pa_cons (pe_mid (pe_ifExp (pt_cmpR op_lt (pv 3) pe_int (nomark _)) (pe_op op_add_str pe_str (pe_callB SkE.call_repr_int (by rfl) T.n_repr (by decide +kernel) (pa_cons (pe_op op_add (pv 3) pe_int) pa_nil))) pe_str)) pa_nil))) pa_nil)))))
        pss_nil)
      (pss_one (ps_ret (pv 5)))))))))))), ?_⟩
    case dat1 =>
      rintro σ Hs Qs ⟨dd, ed, qd⟩
      unfold lenO at ed
      split at ed
      · rename_i h9
        cases ed
        obtain ⟨y0, y1, y2, y3, y4, y5, y6, y7, y8, rfl⟩ : ∃ y0 y1 y2 y3 y4 y5 y6 y7 y8, σ = [y0, y1, y2, y3, y4, y5, y6, y7, y8] := by
          match σ, h9 with
          | [y0, y1, y2, y3, y4, y5, y6, y7, y8], _ => exact ⟨y0, y1, y2, y3, y4, y5, y6, y7, y8, rfl⟩
        refine ⟨6, rfl, by decide, by decide, fun D hD => ?_⟩
        refine lc_range (lo := 0) (n := 6) (fun i H' => ∃ xs : List V, H' D = some (.lst xs) ∧ Paired (fun (v : V) (m : Nat) => ∃ t, v = .ref t ∧ t ≠ D ∧ H' t = some (.tup [nV m, .int 0])) xs ((List.range 6).take i) ∧ Ext [] Hs H') ⟨[], upd_same, by simp; exact .nil, .new hD⟩ ?_ ?_
        · rintro i H' hi ⟨xs, hX, hp, e⟩
          simp only [Int.zero_add]
          refine ⟨rfl, yes ?_⟩
          refine ⟨_, rfl, (by show 2 ≤ sizeLine; decide), fun t ht => ?_⟩
          have e2 : Ext [] H' (upd H' t (.tup [.int i, .int 0])) := .new ht
          have tD : t ≠ D := fun z => by rw [z, hX] at ht; cases ht
          have hX2 := e2.at hX (by simp)
          refine ⟨_, hX2, by rw [Paired.len hp, List.length_take, List.length_range]; exact small1000 (by omega), xs ++ [.ref t], upd_same, ?_, (e.trans e2).put hD⟩
          rw [List.take_add_one, List.getElem?_range hi]
          refine Paired.snoc ⟨t, rfl, tD, by rw [upd_ne tD]; exact upd_same⟩ (Paired.imp hp fun v m z => ?_)
          obtain ⟨g, rfl, h1, h2⟩ := z
          exact ⟨g, rfl, h1, by rw [upd_ne h1]; exact e2.at h2 (by simp)⟩
        · rintro H' ⟨xs, hX, hp, e⟩
          have hp : Paired (fun (v : V) (m : Nat) => ∃ t, v = .ref t ∧ H' t = some (.tup [nV m, .int 0])) xs (List.range 6) := Paired.imp hp fun v m z => by
            obtain ⟨g, rfl, _, h2⟩ := z
            exact ⟨g, rfl, h2⟩
          refine ⟨D, _, rfl, .of hX, fun t H2 ht hH => ?_⟩
          obtain ⟨o, _, rfl⟩ := hH
          have e3 : Ext [] H' (upd H' t (.frz o (.tup xs))) := .new ht
          exact qd _ _ (e.trans e3) (.tup (.inl (.inr ⟨o, upd_same⟩)) (DpAll.ext0 e3 (dp_six hp)))
      · cases ed
    refine ⟨_, rfl, _, rfl, a, _, rfl, .inr ha, p, l, _, rfl, hP, by omega, by omega, fun r H1 r0 r1 P1 e1 => ?_⟩
    obtain ⟨k, rfl⟩ : ∃ k : Nat, r = (k : Int) := ⟨r.toNat, by omega⟩
    have hk : k < b.length := by omega
    have ha1 := e1.tup hP.lsts ha
    refine ⟨_, rfl, a, _, rfl, .inr ha1, _, _, rfl, ?_⟩
    refine ⟨_, rfl, (by show 10 ≤ 1000; decide), fun bp vs1 H2 fbp hbp e2 hd1 => ?_⟩
    have hd1 : DpAll K H2 vs1 (badA b.length) := by rw [← llen]; exact hd1
    refine ⟨_, rfl, badB, rfl, (by show 5 ≤ 1000; decide), fun bq vs2 H3 fbq hbq e3 hd2 => ?_⟩
    have l1 := dpAll_len hd1
    have l2 := dpAll_len hd2
    have l1 : vs1.length = 10 := l1
    have l2 : vs2.length = 5 := l2
    refine ⟨bp, bq, _, _, rfl, rfl, e3.at hbp (by simp), hbq, by rw [l1, l2]; exact Nat.le_of_lt (small1000 (by omega)), fun bc hbc => ?_⟩
    have hds : DpAll K (upd H3 bc (.lst (vs1 ++ vs2))) (vs1 ++ vs2) (badA b.length ++ badB) := DpAll.ext0 (.new hbc) (DpAll.append (DpAll.ext0 e3 hd1) hd2)
    have e4 : Ext [] H1 (upd H3 bc (.lst (vs1 ++ vs2))) := (e2.trans e3).put2 hbc
    have hbc4 : upd H3 bc (.lst (vs1 ++ vs2)) bc = some (.lst (vs1 ++ vs2)) := upd_same
    have fbc : H1 bc = none := (e2.trans e3).free hbc
    clear hd1 hd2 hbq hbp fbq fbp e2 e3
    generalize upd H3 bc (.lst (vs1 ++ vs2)) = H4 at *
    -- found
    refine ⟨things, rfl, (by show 5 ≤ 1000; decide), fun tq vs3 H5 ftq htq e5 hd3 => ⟨tq, rfl, ⟨_, .of htq⟩, fun D hD => ?_⟩⟩
    have l3 := dpAll_len hd3
    have l3 : vs3.length = 5 := l3
    have e5' := e4.trans e5
    have fD1 : H1 D = none := e5'.free hD
    refine lc_list (K := K) (a := tq) (xs := vs3) (fun j H' => ∃ xs : List V, H' D = some (.lst xs) ∧ xs.length = j ∧ (∀ x ∈ xs, Entry K T.x_BadBook.C T.x_Stray.C H' x) ∧ Ext [] H5 H') ⟨[], upd_same, rfl, (fun x hx => nomatch hx), .new hD⟩ (fun j H' _ ⟨_, _, _, _, e⟩ => .of (e.at htq (by simp))) ?_ ?_
    · rintro j v H' hv ⟨xs, hX, hxl, hxe, e6⟩
      have hj : j < 5 := by
        have := (List.getElem?_eq_some_iff.mp hv).1
        omega
      obtain ⟨dj, hdj, hDj⟩ := dpAll_get' hd3 hv
      obtain ⟨hbad, hnl⟩ := things_bad dj (List.mem_of_getElem? hdj)
      refine ⟨rfl, yes ?_⟩
      refine ⟨_, rfl, (by show 2 ≤ sizeLine; decide), fun t ht => ?_⟩
      have e7 : Ext [] H' (upd H' t (.tup [v, .str "BadBook -1"])) := .new ht
      have hX7 := e7.at hX (by simp)
      refine ⟨_, hX7, by rw [hxl]; exact small1000 (by omega), xs ++ [.ref t], upd_same, by rw [List.length_append, hxl]; rfl, fun x hx => ?_, (e6.trans e7).put hD⟩
      have wD : Ext [D] (upd H' t (.tup [v, .str "BadBook -1"])) (upd (upd H' t (.tup [v, .str "BadBook -1"])) D (.lst (xs ++ [.ref t]))) := .wr (by simp)
      have lD := one_lst hX7
      rcases List.mem_append.mp hx with hx | hx
      · exact ((hxe x hx).ext0 e7).ext wD lD
      · rw [List.mem_singleton.mp hx]
        refine Entry.ext ⟨t, v, dj, _, -1, "BadBook ", rfl, .of ?_, Dp.ext0 (e6.trans e7) hDj, hnl, .form hbad, .inl ⟨rfl, rfl⟩, by omega, by omega⟩ wD lD
        rw [upd_same]
        have : (PySem.Str.ofString "BadBook " ++ PySem.Str.ofString (toString (-1 : Int))) = PySem.Str.ofString "BadBook -1" := by decide +kernel
        rw [this]
    · rintro H6 ⟨xs0, hX, hxl, hxe, e6⟩
      rw [l3] at hxl
      have e6' := e5'.trans e6
      have ha6 := e6'.tup Lsts.nil ha1
      have P6 := P1.ext0 e6'
      have hbc6 := (e5.trans e6).at hbc4 (by simp)
      have hds6 := DpAll.ext0 (e5.trans e6) hds
      -- some = list(book)
      refine ⟨_, rfl, a, _, rfl, .inr ha6, fun so hso => ?_⟩
      have fso : H1 so = none := e6'.free hso
      have e7 : Ext [] H6 (upd H6 so (.lst ls)) := .new hso
      -- some[-1] = None
      have hix : ixN ls.length (-1) = some (ls.length - 1) := by
        unfold ixN
        rw [if_neg (by omega), if_pos (by omega)]
        congr 1
        omega
      refine ⟨_, rfl, 1, rfl, so, _, _, ls.length - 1, rfl, rfl, upd_same, hix, ?_⟩
      rw [upd_upd]
      have e7 : Ext [] H6 (upd H6 so (.lst (ls.set (ls.length - 1) .non))) := .new hso
      have hs7 : upd H6 so (.lst (ls.set (ls.length - 1) .non)) so = some (.lst (ls.set (ls.length - 1) .non)) := upd_same
      show _
      generalize upd H6 so (.lst (ls.set (ls.length - 1) .non)) = H7 at *
      obtain ⟨sop, sol⟩ := P1.off fso
      obtain ⟨Dp', Dl⟩ := P1.off fD1
      obtain ⟨bcp, bcl⟩ := P1.off fbc
      have P7 := P6.ext0 e7
      have hX7 := e7.at hX (by simp)
      have sD : so ≠ D := fun z => by rw [z, hX] at hso; cases hso
      -- some[at] = pick
      refine ⟨_, rfl, _, rfl, p, l, bc, _, rfl, P7, .of (e7.at hbc6 (by simp)), bcp, bcl, by rw [List.length_append]; omega, by rw [List.length_append]; omega, fun i v H8 hi P8 e8 => ?_⟩
      obtain ⟨d, hd, hDv⟩ := dpAll_get' (DpAll.ext0 e7 hds6) hi
      have hdm := List.mem_of_getElem? hd
      have hDv8 := Dp.extL e8 P7.lsts hDv (bad_noL _ d hdm)
      refine ⟨_, rfl, _, rfl, so, _, _, k, rfl, rfl, e8 _ _ (off2 sop sol) hs7, ixNat (by rw [List.length_set]; omega), ?_⟩
      have hX8 := e8 _ _ (off2 Dp' Dl) hX7
      have o8 : Ext [p, l] H H8 := ((e1.trans e6'.weak).trans e7.weak).trans e8
      have w9 : Ext [so] H8 (upd H8 so (.lst ((ls.set (ls.length - 1) .non).set k v))) := .wr (by simp)
      have l9 : Lsts [so] H8 := one_lst (e8 _ _ (off2 sop sol) hs7)
      have hs9 : upd H8 so (.lst ((ls.set (ls.length - 1) .non).set k v)) so = some (.lst ((ls.set (ls.length - 1) .non).set k v)) := upd_same
      have hX9 := w9 D _ (by simp [sD.symm]) hX8
      have P9 := P8.put (o := .lst ((ls.set (ls.length - 1) .non).set k v)) sop sol
      have o9 : Ext [p, l] H (upd H8 so (.lst ((ls.set (ls.length - 1) .non).set k v))) := o8.put' (e1.free2 fso (off2 sop sol))
      have ent9 : ∀ x ∈ xs0, Entry K T.x_BadBook.C T.x_Stray.C (upd H8 so (.lst ((ls.set (ls.length - 1) .non).set k v))) x := fun x hx => (((hxe x hx).ext0 e7).ext e8 P7.lsts).ext w9 l9
      have hb9 : BkV K (upd H8 so (.lst ((ls.set (ls.length - 1) .non).set k v))) (.ref a) b := ((((hb.ext e1 hP.lsts).ext0 e6').ext0 e7).ext e8 P7.lsts).ext w9 l9
      have ha9 := w9.tup l9 (e8.tup P7.lsts (e7.tup Lsts.nil ha6))
      have hls9 : Paired (StV K (upd H8 so (.lst ((ls.set (ls.length - 1) .non).set k v)))) ls b := Paired.imp hls fun _ _ z => ((((z.ext e1 hP.lsts).ext0 e6').ext0 e7).ext e8 P7.lsts).ext w9 l9
      have dv9 := Dp.extL w9 l9 hDv8 (bad_noL _ d hdm)
      show _
      generalize upd H8 so (.lst ((ls.set (ls.length - 1) .non).set k v)) = H9 at *
      clear e8 w9 l9 hX8 hs7 hX7 P7 P8 hDv8 hDv e7 hds6 hbc6 P6 ha6 e6 hX hso hxe
      have fD := e1.free2 fD1 (off2 Dp' Dl)
      have dls := dp_sts hls9
      have ksm : ((k : Int)).natAbs.log2 < 1920 := Nat.lt_of_le_of_lt (Nat.log2_le_self _) (by omega)
      have nsm : ((ls.length : Int)).natAbs.log2 < 1920 := Nat.lt_of_le_of_lt (Nat.log2_le_self _) (by omega)
      have ksl := str_small (e := (k : Int)) ⟨by omega, by omega⟩
      have nsl := str_small (e := (ls.length : Int)) ⟨by omega, by omega⟩
      have lb : (Str.ofString "BadBook ").length = 8 := by decide +kernel
      have lst : (Str.ofString "Stray ").length = 6 := by decide +kernel
      -- the first further pair
      refine ⟨_, rfl, .inl ⟨rfl, _, .of hX9⟩, _, rfl, so, _, rfl, .of hs9, fun tt Ha htt hHa => ?_⟩
      obtain ⟨oo, _, rfl⟩ := hHa
      refine ⟨_, rfl, _, rfl, ksm, _, _, rfl, rfl, Nat.le_of_lt (small1000 (by omega)), (by show 2 ≤ sizeLine; decide), fun te hte => ?_⟩
      have x1 : Ext [] H9 (upd (upd H9 tt (.frz oo (.tup ((ls.set (ls.length - 1) .non).set k v)))) te (.tup [.ref tt, .str (Str.ofString "BadBook " ++ Str.ofString (toString (k : Int)))])) := (Ext.new (L := []) htt).put2 hte
      have tte : tt ≠ te := fun z => by rw [← z, upd_same] at hte; cases hte
      have hX10 := x1.at hX9 (by simp)
      have wD : Ext [D] (upd (upd H9 tt (.frz oo (.tup ((ls.set (ls.length - 1) .non).set k v)))) te (.tup [.ref tt, .str (Str.ofString "BadBook " ++ Str.ofString (toString (k : Int)))])) (upd (upd (upd H9 tt (.frz oo (.tup ((ls.set (ls.length - 1) .non).set k v)))) te (.tup [.ref tt, .str (Str.ofString "BadBook " ++ Str.ofString (toString (k : Int)))])) D (.lst (xs0 ++ [.ref te]))) := .wr (by simp)
      have entA : ∀ x ∈ xs0 ++ [.ref te], Entry K T.x_BadBook.C T.x_Stray.C (upd (upd (upd H9 tt (.frz oo (.tup ((ls.set (ls.length - 1) .non).set k v)))) te (.tup [.ref tt, .str (Str.ofString "BadBook " ++ Str.ofString (toString (k : Int)))])) D (.lst (xs0 ++ [.ref te]))) x := fun x hx => by
        refine Entry.ext (L := [D]) ?_ wD (one_lst hX10)
        rcases List.mem_append.mp hx with hx | hx
        · exact (ent9 x hx).ext0 x1
        · rw [List.mem_singleton.mp hx]
          refine ⟨te, .ref tt, .tuple (((b.map stD).set (b.length - 1) .none).set k d), _, k, "BadBook ", rfl, .of upd_same, .tup (.inl (.inr ⟨oo, by rw [upd_ne tte, upd_same]⟩)) ?_, ?_, .form (form_bad fb hk (bad_all _ d hdm)), .inl ⟨rfl, rfl⟩, by omega, by omega⟩
          · have := DpAll.set dv9 k (DpAll.set (.non : Dp K H9 .non .none) (ls.length - 1) dls)
            have eqd : (b.map stD).set (b.length - 1) .none = (b.map stD).set (ls.length - 1) .none := by rw [llen]
            rw [eqd]
            exact DpAll.ext0 x1 this
          · show noLs _ = true
            rw [noLs_iff]
            intro y hy
            rcases mem_set_or hy with hy | rfl
            · rcases mem_set_or hy with hy | rfl
              · obtain ⟨s0, _, rfl⟩ := List.mem_map.mp hy
                exact noL_st s0
              · rfl
            · exact bad_noL _ _ hdm
      refine ⟨D, _, _, rfl, rfl, hX10, by rw [hxl]; exact small1000 (by omega), ?_⟩
      have hXb : upd (upd (upd H9 tt (.frz oo (.tup ((ls.set (ls.length - 1) .non).set k v)))) te (.tup [.ref tt, .str (Str.ofString "BadBook " ++ Str.ofString (toString (k : Int)))])) D (.lst (xs0 ++ [.ref te])) D = some (.lst (xs0 ++ [.ref te])) := upd_same
      have Pb : PoolAt (upd (upd (upd H9 tt (.frz oo (.tup ((ls.set (ls.length - 1) .non).set k v)))) te (.tup [.ref tt, .str (Str.ofString "BadBook " ++ Str.ofString (toString (k : Int)))])) D (.lst (xs0 ++ [.ref te]))) p l := (P9.ext0 x1).put Dp' Dl
      have ob : Ext [p, l] H (upd (upd (upd H9 tt (.frz oo (.tup ((ls.set (ls.length - 1) .non).set k v)))) te (.tup [.ref tt, .str (Str.ofString "BadBook " ++ Str.ofString (toString (k : Int)))])) D (.lst (xs0 ++ [.ref te]))) := (o9.trans x1.weak).put' fD
      have hab := wD.tup (one_lst hX10) (x1.tup Lsts.nil ha9)
      have hlsb : Paired (StV K (upd (upd (upd H9 tt (.frz oo (.tup ((ls.set (ls.length - 1) .non).set k v)))) te (.tup [.ref tt, .str (Str.ofString "BadBook " ++ Str.ofString (toString (k : Int)))])) D (.lst (xs0 ++ [.ref te])))) ls b := Paired.imp hls9 fun _ _ z => (z.ext0 x1).ext wD (one_lst hX10)
      show _
      generalize upd (upd (upd H9 tt (.frz oo (.tup ((ls.set (ls.length - 1) .non).set k v)))) te (.tup [.ref tt, .str (Str.ofString "BadBook " ++ Str.ofString (toString (k : Int)))])) D (.lst (xs0 ++ [.ref te])) = Hb at *
      refine ⟨fun σ H' => ∃ xs : List V, σ[5]? = some (some (.ref D)) ∧ H' D = some (.lst xs) ∧ (∀ x ∈ xs, Entry K T.x_BadBook.C T.x_Stray.C H' x) ∧ PoolAt H' p l ∧ Ext [p, l] H H' ∧ xs.length ≤ 8, ?_, ?_⟩
      · refine ⟨_, rfl, _, _, rfl, rfl, _, rfl, ite2 (fun z => ?_) (fun z => ⟨_, rfl, hXb, entA, Pb, ob, by rw [List.length_append, hxl]; exact (by decide : 6 ≤ 8)⟩)⟩
        have hn8 : b.length < 8 := by
          have := of_decide_eq_true z
          omega
        have lXb : (xs0 ++ [V.ref te]).length = 6 := by rw [List.length_append, hxl]; rfl
        generalize hxsb : xs0 ++ [V.ref te] = xsb at *
        -- a stray
        refine ⟨_, rfl, .inl ⟨rfl, _, .of hXb⟩, _, rfl, _, rfl, fun w1 Hc ec hw1 => ?_⟩
        obtain ⟨c1, ws1, rfl, hc1, hws1⟩ : ∃ c ws, w1 = .ref c ∧ SqT K Hc c ws ∧ DpAll K Hc ws [.tuple [.tuple [.int 0, .int (ls.length : Int)]]] := by
          cases hw1 with
          | tup h1 h2 => exact ⟨_, _, rfl, h1, h2⟩
        have lw1 := dpAll_len hws1
        have lw1 : ws1.length = 1 := lw1
        have hac := ec.tup Lsts.nil hab
        have lsne : ls ≠ [] := fun h0 => by
          rw [h0] at llen
          have : 0 = b.length := llen
          omega
        have ws1ne : ws1 ≠ [] := fun h0 => by
          rw [h0] at lw1
          cases lw1
        refine ⟨a, c1, ls, ws1, rfl, rfl, hac, hc1, Nat.le_of_lt (small1000 (by omega)), fun h0 => absurd h0 lsne, fun _ h0 => absurd h0 ws1ne, fun _ _ t1 ht1 => ?_⟩
        refine ⟨_, rfl, _, rfl, nsm, _, _, rfl, rfl, Nat.le_of_lt (small1000 (by omega)), (by show 2 ≤ sizeLine; decide), fun te1 hte1 => ?_⟩
        have x1c : Ext [] Hc (upd (upd Hc t1 (.tup (ls ++ ws1))) te1 (.tup [.ref t1, .str (Str.ofString "Stray " ++ Str.ofString (toString (ls.length : Int)))])) := (Ext.new (L := []) ht1).put2 hte1
        have tte1 : t1 ≠ te1 := fun z => by rw [← z, upd_same] at hte1; cases hte1
        have x1b := ec.trans x1c
        have hXc := x1b.at hXb (by simp)
        have hst1 : upd (upd Hc t1 (.tup (ls ++ ws1))) te1 (.tup [.ref t1, .str (Str.ofString "Stray " ++ Str.ofString (toString (ls.length : Int)))]) t1 = some (.tup (ls ++ ws1)) := by rw [upd_ne tte1, upd_same]
        have hste : upd (upd Hc t1 (.tup (ls ++ ws1))) te1 (.tup [.ref t1, .str (Str.ofString "Stray " ++ Str.ofString (toString (ls.length : Int)))]) te1 = some (.tup [.ref t1, .str (Str.ofString "Stray " ++ Str.ofString (toString (ls.length : Int)))]) := upd_same
        have dlsb := dp_sts hlsb
        refine ⟨D, _, _, rfl, rfl, hXc, by rw [lXb]; exact small1000 (by omega), ?_⟩
        have hws1c := DpAll.ext0 x1c hws1
        show _
        generalize upd (upd Hc t1 (.tup (ls ++ ws1))) te1 (.tup [.ref t1, .str (Str.ofString "Stray " ++ Str.ofString (toString (ls.length : Int)))]) = Hd at *
        have w2 : Ext [D] Hd (upd Hd D (.lst (xsb ++ [.ref te1]))) := .wr (by simp)
        have l2d := one_lst hXc
        have st1 : StOk (b.length + 1) [(0, b.length)] := ⟨by simp, by simp, by simp, by simp⟩
        have entB : ∀ x ∈ xsb ++ [.ref te1], Entry K T.x_BadBook.C T.x_Stray.C (upd Hd D (.lst (xsb ++ [.ref te1]))) x := fun x hx => by
          refine Entry.ext (L := [D]) ?_ w2 l2d
          rcases List.mem_append.mp hx with hx | hx
          · exact (entA x hx).ext0 x1b
          · rw [List.mem_singleton.mp hx]
            refine ⟨te1, .ref t1, bookD (b ++ [[(0, b.length)]]), _, (ls.length : Int), "Stray ", rfl, .of hste, ?_, ?_, ?_, .inr ⟨rfl, rfl⟩, by omega, by omega⟩
            · rw [bookD_app]
              have e1' : stD [(0, b.length)] = .tuple [.tuple [.int 0, .int (ls.length : Int)]] := by rw [llen]; rfl
              rw [e1']
              exact .tup (.of hst1) (DpAll.append (DpAll.ext0 x1b dlsb) hws1c)
            · rw [bookD_app]
              show noLs _ = true
              rw [noLs_iff]
              intro y hy
              rcases List.mem_append.mp hy with hy | hy
              · obtain ⟨s0, _, rfl⟩ := List.mem_map.mp hy
                exact noL_st s0
              · rw [List.mem_singleton.mp hy]
                exact noL_st _
            · rw [llen]
              exact .stray rfl (form_app fb hn8 st1) (stray_app ok)
        have hXe : upd Hd D (.lst (xsb ++ [.ref te1])) D = some (.lst (xsb ++ [.ref te1])) := upd_same
        have Pe : PoolAt (upd Hd D (.lst (xsb ++ [.ref te1]))) p l := (Pb.ext0 x1b).put Dp' Dl
        have oe : Ext [p, l] H (upd Hd D (.lst (xsb ++ [.ref te1]))) := (ob.trans x1b.weak).put' fD
        have hae := w2.tup l2d (x1b.tup Lsts.nil hab)
        have hlse : Paired (StV K (upd Hd D (.lst (xsb ++ [.ref te1])))) ls b := Paired.imp hlsb fun _ _ z => (z.ext0 x1b).ext w2 l2d
        have lXe : (xsb ++ [V.ref te1]).length = 7 := by rw [List.length_append, lXb]; rfl
        show _
        generalize upd Hd D (.lst (xsb ++ [.ref te1])) = He at *
        generalize xsb ++ [V.ref te1] = xse at *
        clear w2 l2d x1b x1c hXc hws1c hst1 hste dlsb hws1 hac entA hab hlsb Pb ob
        -- the other
        refine ⟨_, rfl, .inl ⟨rfl, _, .of hXe⟩, _, rfl, _, rfl, fun w2 Hf ef hw2 => ?_⟩
        obtain ⟨c2, ws2, rfl, hc2, hws2⟩ : ∃ c ws, w2 = .ref c ∧ SqT K Hf c ws ∧ DpAll K Hf ws [.tuple [], .none] := by
          cases hw2 with
          | tup h1 h2 => exact ⟨_, _, rfl, h1, h2⟩
        have lw2 : ws2.length = 2 := dpAll_len hws2
        refine ⟨_, rfl, _, _, rfl, rfl, _, _, rfl, _, rfl, ?_⟩
        have nsm1 : ((ls.length : Int) + 1).natAbs.log2 < 1920 := Nat.lt_of_le_of_lt (Nat.log2_le_self _) (by omega)
        have nsl1 := str_small (e := (ls.length : Int) + 1) ⟨by omega, by omega⟩
        have s7 : V.str (Str.ofString "Stray 7") = V.str (Str.ofString "Stray " ++ Str.ofString (toString (7 : Int))) := by
          congr 1
        by_cases h6 : b.length ≤ 6
        · rw [if_neg (by omega)]
          have refA : Ref T.x_BadBook.C T.x_Stray.C (.tuple (b.map stD ++ [.tuple [], .none])) T.x_BadBook.C ((ls.length : Int) + 1) := by
            have e9 : ((ls.length : Int) + 1) = ((b.length + 1 : Nat) : Int) := by omega
            rw [e9]
            exact .form (form_two fb h6)
          have ysne : ws2 ≠ [] := fun h0 => by rw [h0] at lw2; cases lw2
          refine ⟨c2, ws2, rfl, hc2, fun _ => ?_, fun h => absurd ⟨rfl, by rw [lw2]; rfl⟩ h⟩
          refine ⟨a, c2, ls, ws2, rfl, rfl, ef.tup Lsts.nil hae, hc2, Nat.le_of_lt (small1000 (by omega)), fun h0 => absurd h0 lsne, fun _ h0 => absurd h0 ysne, fun _ _ t2 ht2 => ?_⟩
          have xg : Ext [] He (upd Hf t2 (.tup (ls ++ ws2))) := ef.put2 ht2
          have ht2s : upd Hf t2 (.tup (ls ++ ws2)) t2 = some (.tup (ls ++ ws2)) := upd_same
          have hdat2 : DpAll K (upd Hf t2 (.tup (ls ++ ws2))) (ls ++ ws2) (b.map stD ++ [.tuple [], .none]) := DpAll.append (DpAll.ext0 xg (dp_sts hlse)) (DpAll.ext0 (.new ht2) hws2)
          refine ⟨fun v H' => H' = upd Hf t2 (.tup (ls ++ ws2)) ∧ v = .str (Str.ofString "BadBook " ++ Str.ofString (toString ((ls.length : Int) + 1))), ⟨_, rfl, _, _, rfl, rfl, _, rfl, ite2 (fun _ => ⟨_, rfl, _, _, rfl, rfl, _, rfl, nsm1, _, _, rfl, rfl, Nat.le_of_lt (small1000 (by omega)), rfl, rfl⟩) (fun z => absurd (decide_eq_true (by omega)) z)⟩, ?_⟩
          rintro v' H' ⟨rfl, rfl⟩
          refine ⟨(by show 2 ≤ sizeLine; decide), fun te2 hte2 => ?_⟩
          have xh := xg.put2 (o := .tup [.ref t2, .str (Str.ofString "BadBook " ++ Str.ofString (toString ((ls.length : Int) + 1)))]) hte2
          have tn2 : t2 ≠ te2 := fun z => by rw [← z, upd_same] at hte2; cases hte2
          have hXh := xh.at hXe (by simp)
          have w3 : Ext [D] (upd (upd Hf t2 (.tup (ls ++ ws2))) te2 (.tup [.ref t2, .str (Str.ofString "BadBook " ++ Str.ofString (toString ((ls.length : Int) + 1)))])) (upd (upd (upd Hf t2 (.tup (ls ++ ws2))) te2 (.tup [.ref t2, .str (Str.ofString "BadBook " ++ Str.ofString (toString ((ls.length : Int) + 1)))])) D (.lst (xse ++ [.ref te2]))) := .wr (by simp)
          have l3d := one_lst hXh
          refine ⟨D, _, _, rfl, rfl, hXh, by rw [lXe]; exact small1000 (by omega), _, rfl, upd_same, fun x hx => ?_, (Pe.ext0 xh).put Dp' Dl, (oe.trans xh.weak).put' fD, by rw [List.length_append, lXe]; exact (by decide : 8 ≤ 8)⟩
          refine Entry.ext (L := [D]) ?_ w3 l3d
          rcases List.mem_append.mp hx with hx | hx
          · exact (entB x hx).ext0 xh
          · rw [List.mem_singleton.mp hx]
            refine ⟨te2, .ref t2, .tuple (b.map stD ++ [.tuple [], .none]), _, (ls.length : Int) + 1, "BadBook ", rfl, .of upd_same, .tup (.of (by rw [upd_ne tn2]; exact ht2s)) (DpAll.ext0 (.new hte2) hdat2), ?_, refA, .inl ⟨rfl, rfl⟩, by omega, by omega⟩
            show noLs _ = true
            rw [noLs_iff]
            intro y hy
            rcases List.mem_append.mp hy with hy | hy
            · obtain ⟨s0, _, rfl⟩ := List.mem_map.mp hy
              exact noL_st s0
            · revert hy
              simp
              rintro (rfl | rfl) <;> rfl
        · rw [if_pos (by omega)]
          have h7 : ls.length = 7 := by omega
          have refB : Ref T.x_BadBook.C T.x_Stray.C (.tuple (b.map stD ++ [.tuple []])) T.x_Stray.C (7 : Int) := by
            have e9 : (7 : Int) = ((b.length : Nat) : Int) := by omega
            rw [e9]
            exact .stray (bookD_app b []).symm (form_app fb hn8 ⟨by simp, by simp, by simp, by simp⟩) (stray_app ok)
          have ysne : ws2.take 1 ≠ [] := fun h0 => by
            have := congrArg List.length h0
            rw [List.length_take, lw2] at this
            cases this
          have e1' : (8 : Int) - (ls.length : Int) = 1 := by omega
          rw [e1']
          refine ⟨c2, ws2, rfl, hc2, fun h => absurd h.2 (by rw [lw2]; decide), fun _ c3 hc3 => ?_⟩
          rw [cutOne]
          have ef3 : Ext [] He (upd Hf c3 (.tup (ws2.take 1))) := ef.put2 hc3
          have l31 : (ws2.take 1).length = 1 := by rw [List.length_take, lw2]; rfl
          have hws3 : DpAll K (upd Hf c3 (.tup (ws2.take 1))) (ws2.take 1) [.tuple []] := DpAll.ext0 (.new hc3) (dpAll_take 1 hws2)
          refine ⟨a, c3, ls, (ws2.take 1), rfl, rfl, ef3.tup Lsts.nil hae, (.of upd_same), Nat.le_of_lt (small1000 (by omega)), fun h0 => absurd h0 lsne, fun _ h0 => absurd h0 ysne, fun _ _ t2 ht2 => ?_⟩
          have xg : Ext [] He (upd (upd Hf c3 (.tup (ws2.take 1))) t2 (.tup (ls ++ (ws2.take 1)))) := ef3.put2 ht2
          have ht2s : upd (upd Hf c3 (.tup (ws2.take 1))) t2 (.tup (ls ++ (ws2.take 1))) t2 = some (.tup (ls ++ (ws2.take 1))) := upd_same
          have hdat2 : DpAll K (upd (upd Hf c3 (.tup (ws2.take 1))) t2 (.tup (ls ++ (ws2.take 1)))) (ls ++ (ws2.take 1)) (b.map stD ++ [.tuple []]) := DpAll.append (DpAll.ext0 xg (dp_sts hlse)) (DpAll.ext0 (.new ht2) hws3)
          refine ⟨fun v H' => H' = upd (upd Hf c3 (.tup (ws2.take 1))) t2 (.tup (ls ++ (ws2.take 1))) ∧ v = .str (Str.ofString "Stray " ++ Str.ofString (toString (7 : Int))), ⟨_, rfl, _, _, rfl, rfl, _, rfl, ite2 (fun z => absurd (of_decide_eq_true z) (by omega)) (fun _ => ⟨rfl, s7⟩)⟩, ?_⟩
          rintro v' H' ⟨rfl, rfl⟩
          refine ⟨(by show 2 ≤ sizeLine; decide), fun te2 hte2 => ?_⟩
          have xh := xg.put2 (o := .tup [.ref t2, .str (Str.ofString "Stray " ++ Str.ofString (toString (7 : Int)))]) hte2
          have tn2 : t2 ≠ te2 := fun z => by rw [← z, upd_same] at hte2; cases hte2
          have hXh := xh.at hXe (by simp)
          have w3 : Ext [D] (upd (upd (upd Hf c3 (.tup (ws2.take 1))) t2 (.tup (ls ++ (ws2.take 1)))) te2 (.tup [.ref t2, .str (Str.ofString "Stray " ++ Str.ofString (toString (7 : Int)))])) (upd (upd (upd (upd Hf c3 (.tup (ws2.take 1))) t2 (.tup (ls ++ (ws2.take 1)))) te2 (.tup [.ref t2, .str (Str.ofString "Stray " ++ Str.ofString (toString (7 : Int)))])) D (.lst (xse ++ [.ref te2]))) := .wr (by simp)
          have l3d := one_lst hXh
          refine ⟨D, _, _, rfl, rfl, hXh, by rw [lXe]; exact small1000 (by omega), _, rfl, upd_same, fun x hx => ?_, (Pe.ext0 xh).put Dp' Dl, (oe.trans xh.weak).put' fD, by rw [List.length_append, lXe]; exact (by decide : 8 ≤ 8)⟩
          refine Entry.ext (L := [D]) ?_ w3 l3d
          rcases List.mem_append.mp hx with hx | hx
          · exact (entB x hx).ext0 xh
          · rw [List.mem_singleton.mp hx]
            refine ⟨te2, .ref t2, .tuple (b.map stD ++ [.tuple []]), _, 7, "Stray ", rfl, .of upd_same, .tup (.of (by rw [upd_ne tn2]; exact ht2s)) (DpAll.ext0 (.new hte2) hdat2), ?_, refB, .inr ⟨rfl, rfl⟩, by omega, by omega⟩
            show noLs _ = true
            rw [noLs_iff]
            intro y hy
            rcases List.mem_append.mp hy with hy | hy
            · obtain ⟨s0, _, rfl⟩ := List.mem_map.mp hy
              exact noL_st s0
            · revert hy
              simp
              rintro rfl
              rfl
      · rintro σ H' ⟨xs, h5, hX, he, hP', e', h8'⟩
        exact ⟨_, h5, q D xs H' hX he h8' hP' e'⟩
theorem ok_law_win_no_books (T : Tx K mg) : FnOk P w K mg base CX0 3 T.law_win_no_books.f T.law_win_no_books.fd ["pool", "book"] (sp_law_win_no_books K T.x_BadBook.C T.x_Stray.C) :=
  ⟨fun vs H Q E ⟨p, l, v, b, e, _⟩ => by rw [e]; rfl, fun A outer s H args us vs Q E a b c d ⟨p, l, v, bk, h1, h2, h3, h4, q⟩ => (okN_law_win_no_books T).run A outer s H args us vs Q E a b c d ⟨p, l, v, bk, h1, h2, h3, h4, fun t xs H' x1 x2 _ x3 x4 => q t xs H' x1 x2 x3 x4⟩⟩
end
end Nv
set_option Elab.async false
set_option linter.all false
set_option maxRecDepth 100000
namespace Nv
open PySem PySem.Spec PyProof.Rows L2
open LamX in
/-- the end of a law one of whose defs makes lambdas: P, the table of its code object c -/
theorem endGT {l : PySem.W.OpenLaw} {n k : Nat} {q : Program} {loose : List Str} {XP : (Str → Option Value) → Heap → Prop} {YP : World → Heap → Prop} {d : DefRec} {K : Params → PySem.W.Frag} {sp : PySem.W.Frag → Addr → Sp} {x : Str} {c P : Addr}
    (hn : l.most = some n) (hn2 : n ≤ sizeLine) (hdf : d.params.defaults = []) (hr : Room k callerA) (hY : ∀ (w : World) (h : Heap), YP w h → (K w.params).In h) (hP : ∀ (w : World) (h : Heap), YP w h → h.get? P = some { cls := .none, data := .fields #[] })
    (F : ∀ (w : World) (mg : Str → Option Value) (fa : Addr) (h : Heap), (K w.params).In h → h.Ns mainGlobals mg → mg d.name = some (.ref fa) →
      (K w.params).lookup P = none ∧ PySem.W.codeHdIn (K w.params) c P = true ∧
      ∃ fd : FuncData, (∀ (s : Shared) (u : Value), BindsTo s fd ⟨[u], []⟩ [(x, u)]) ∧ ∀ base : Heap, (K w.params).In base → base.Ns mainGlobals mg → TabB base mg c P → FnG l.prog w (K w.params) mg base CX0 k fa fd [x] (sp (K w.params) P))
    (hsp : ∀ (K : PySem.W.Frag) (H : Hp) (a : Addr) (ns : List Int), ns.length ≤ n → SqL K H a (ns.map V.int) → H P = some (.tbl #[]) → sp K P [.ref a] H (fun v _ => v = .bl true) fun _ _ _ => False) :
    PySem.W.WalkO q loose XP YP l.row.toRowW d [] (fun f vs => PySem.call f vs) := by
  refine Att.attach_call hn hdf fun w s₀ s1 mg mb fa o pm cd doc a vs ns G Y ho hd hcd hmg hobj hints hlen hg => ?_
  have KX := hY w _ Y
  have hP := hP w _ Y
  obtain ⟨nP, hC, fd, hb, hF⟩ := F w mg fa _ KX G.T.g hmg
  have small : ns.length ≤ sizeLine := Nat.le_trans hlen hn2
  obtain ⟨Z, only, seen, hok, dom⟩ := script_gone (P := l.prog) (w := w) KX hobj hints small
  have aP : a ≠ P := fun z => by
    rw [z, hP] at hobj
    cases hobj
  have ZP : Z P = none := by
    cases e : Z P with
    | none => rfl
    | some u => exact absurd (dom P u e).1.symm aP
  obtain ⟨H, eH⟩ : ∃ H : Hp, H = upd Z P (.tbl #[]) := ⟨_, rfl⟩
  have HP : H P = some (.tbl #[]) := by rw [eH, upd_same]
  have Ho : ∀ b, b ≠ P → H b = Z b := fun b hb => by rw [eH, upd_ne hb]
  have seen : SqL (K w.params) H a (ns.map V.int) := by
    rcases seen with (z | ⟨ob, z⟩) | z
    · exact .inl (.inl (by rw [Ho a aP]; exact z))
    · exact .inl (.inr ⟨ob, by rw [Ho a aP]; exact z⟩)
    · exact .inr z
  have what : ∀ b u, H b = some u → (b = P ∧ u = .tbl #[]) ∨ (b ≠ P ∧ b = a ∧ (K w.params).lookup a = none ∧ ∃ ob ys, u = .frz ob (.lst ys) ∧ Z b = some u) := fun b u e => by
    by_cases hb : b = P
    · rw [hb, HP] at e
      exact .inl ⟨hb, (Option.some.inj e).symm⟩
    · rw [Ho b hb] at e
      obtain ⟨h1, h2⟩ := dom b u e
      rcases only b with z | ⟨ob, ys, z⟩
      · rw [z] at e; cases e
      · rw [z] at e
        exact .inr ⟨hb, h1, h2, ob, ys, (Option.some.inj e).symm, by rw [z]; exact e⟩
  have hok : HOk l.prog w H s1.heap := fun b u e => by
    rcases what b u e with ⟨rfl, rfl⟩ | ⟨_, _, _, ob, ys, rfl, z⟩
    · exact hP
    · exact hok b _ z
  have free : ∀ {b : Addr} {o : Obj}, s1.heap.get? b = some o → (∀ xs k, o.data ≠ .seq xs k) → o.data ≠ .fields #[] → H b = none := fun {b o} e n1 n2 => by
    cases q : H b with
    | none => rfl
    | some u =>
      rcases what b u q with ⟨rfl, _⟩ | ⟨_, rfl, _⟩
      · rw [hP] at e
        cases e
        exact (n2 rfl).elim
      · rw [hobj] at e
        cases e
        exact (n1 _ _ rfl).elim
  have dk : ∀ {b : Addr} {o : Obj} {es : Array DictEntry} {ep : Nat}, s1.heap.get? b = some o → o.data = .dict es ep → H b = none := fun {b o es ep} e dd => free e (by rw [dd]; intro _ _ z; cases z) (by rw [dd]; intro z; cases z)
  have ns : ∀ {b : Addr} {m : Str → Option Value}, s1.heap.Ns b m → (hidT s1.heap H).Ns b m := fun {b m} ⟨o, es, ep, e, dd, r⟩ => ⟨o, es, ep, hidT_get e (dk e dd), dd, r⟩
  have inK : (K w.params).In (hidT s1.heap H) := fun b o e => hidT_get (KX b o e) (by
    cases q : H b with
    | none => rfl
    | some u =>
      rcases what b u q with ⟨rfl, _⟩ | ⟨_, rfl, z, _⟩
      · rw [nP] at e; cases e
      · rw [z] at e; cases e)
  have M : Mod (K w.params) mg (hidT s1.heap H) := ⟨inK, ns G.T.g, ⟨mb, ns G.T.b, G.T.builtins⟩, let ⟨mc, h1, h2⟩ := G.T.nolimit; ⟨mc, ns h1, h2⟩⟩
  have e0 : Env0 l.prog w (K w.params) mg (hidT s1.heap H) callerA [] s1 H := ⟨rfl, M, fun b o e => of_hidT e, Nat.le_of_eq (hidT_size _ _), trivial, fun b z => absurd (show b ∈ ([] : List Addr) from z) (by simp), hok, AllBare.of_eq hg⟩
  have gP : mainGlobals ≠ P := fun z => by
    obtain ⟨o, es, ep, e, dd, _⟩ := G.T.g
    rw [z, hP] at e
    cases e
    cases dd
  have bmP : (hidT s1.heap H).BuiltinsAt mg P := by
    obtain ⟨bm, ob, b1, b2, b3, b4, b5, b6⟩ := G.T.bmain
    refine ⟨bm, ob, b1, b2, fun z => ?_, fun z => ?_, hidT_get b3 (free b3 (by rw [b6]; intro _ _ z; cases z) (by rw [b6]; intro z; cases z)), b4, b5, b6⟩
    · obtain ⟨o, es, ep, e, dd, _⟩ := G.T.g
      rw [z, e] at b3
      cases b3
      rw [dd] at b6
      cases b6
    · rw [z, hP] at b3
      cases b3
      cases b6
  have TB : TabB (hidT s1.heap H) mg c P := ⟨PySem.W.codeHd_of_K inK hC, bmP, gP⟩
  refine codeAny_mono ((hF _ inK (ns G.T.g) TB).run callerA [] s1 H ⟨[.ref a], []⟩ [.ref a] [.ref a] _ _ rfl hr e0 (hb s1 (.ref a)) (.cons rfl .nil) (hsp _ H a _ hlen seen HP)) fun r s' h => ?_
  rcases r with e | fl
  · exact (h : False).elim
  · cases fl with
    | next => exact (h : False).elim
    | brk => exact (h : False).elim
    | cont => exact (h : False).elim
    | ret u =>
      obtain ⟨v, H', os, bare, un, hok', rv, qv⟩ := h
      obtain rfl : v = .bl true := qv
      obtain rfl : u = Value.bool true := rv
      obtain ⟨more, ht⟩ : ∃ more : Array Value, s'.heap.get? P = some { cls := .none, data := .fields more } := by
        obtain ⟨more, z⟩ := un.tbls P #[] HP
        exact ⟨_, hok' P _ z⟩
      have stays : ∀ b o, b ≠ P → s1.heap.get? b = some o → s'.heap.get? b = some o := fun b o hb e => by
        cases z : H b with
        | none => exact un.keep b o e z (fun z => absurd (show b ∈ ([] : List Addr) from z) (by simp)) (by simp)
        | some u =>
          rcases what b u z with ⟨z2, _⟩ | ⟨_, _, _, ob, ys, rfl, _⟩
          · exact absurd z2 hb
          · obtain ⟨g1, _⟩ := hok b _ z
            obtain ⟨g2, _⟩ := hok' b _ (un.frzs b ob _ z)
            rw [e] at g1
            cases g1
            exact g2
      refine ⟨rfl, ⟨fun b o e => ?_, fun b o e => ?_⟩, os, bare⟩
      · by_cases hb : b = P
        · subst hb
          rw [hP] at e
          cases e
          exact .inr (.inl ⟨((PySem.W.codeHd_of_K KX hC).tab hP).isCodeTable, rfl, #[], more, rfl, by rw [Array.empty_append]; exact ht⟩)
        · exact .inl (stays b o hb e)
      · by_cases hb : b = P
        · subst hb
          exact ⟨_, ht⟩
        · exact ⟨o, stays b o hb e⟩
end Nv
set_option Elab.async false
set_option linter.all false
set_option maxRecDepth 100000
namespace Nv
open PySem PySem.Spec PyProof.Rows L2
section
variable {P : Program} {w : World} {K : PySem.W.Frag} {mg : Str → Option Value} {base : Heap}
/-! ### what is heard, of any data -/
open LamX in
/-- call(), heard: its error by name and what, or 'none' -/
def THeard {K : PySem.W.Frag} {mg : Str → Option Value} (T : Tx K mg) : (XK → Hp → VK → Prop) → Hp → VK → Prop := fun tl H Q =>
  tl (fun cls d H' => ∃ (nm : Str) (C dx : Addr) (v : V) (dd : PyData), cls = .ref C ∧ ((C = T.x_BadBook.C ∧ nm = "BadBook ") ∨ (C = T.x_Stray.C ∧ nm = "Stray ") ∨ (C = T.x_BadWindow.C ∧ nm = "BadWindow ")) ∧ d = some dx ∧ XdAt H' dx v ∧ Dp K H' v dd ∧ ShowOk dd ∧ dd.shown.length ≤ 100 ∧ Q (.str (nm ++ dd.shown)) H') H fun _ H' => Q (.str "none") H'
theorem sc_law_win_heard : FnScope ["call", "e"] ["call"] (defScope s_law_win_heard) := ⟨rfl, rfl, rfl, by decide +kernel, rfl, by decide +kernel, by decide +kernel⟩
theorem takes_len {X : Cx} {W : WX} {n : Nat} (tk : Takes X W) (hn : X.N.length = n) : Takes X fun cls d σ H => σ.length = n → W cls d σ H := by
  rintro u s' ⟨a, B, sI, pins, σ, H, cls, d, e, I, nb, up, sky, na, os, ag, w⟩
  exact tk u s' ⟨a, B, sI, pins, σ, H, cls, d, e, I, nb, up, sky, na, os, ag, w (by rw [I.len, hn])⟩
open LamX in
theorem heard_gives (T : Tx K mg) {X : Cx} {k : Nat} (hr : Room (k + 1) X.A) (hG : X.A.guards = some []) (eK : X.K = K) (em : X.mg = mg) {cdg : Value} {q : Str} : GivesTo X ["call", "e"] "_law_win_heard" (defScope s_law_win_heard) T.law_win_heard.f cdg (defBody s_law_win_heard) "call" q (THeard T) := by
  subst eK em
  intro f c' s H Q tl act hc h
  refine ⟨_, pss_cons (ps_try_all (X := (cxOf C8.CX0 X.prog X.w X.K X.mg X.base ["call", "e"] "_law_win_heard" (defScope s_law_win_heard) T.law_win_heard.f cdg X.A X.stack s H C8.E0).nox) (n := "e") (i := 1) (Wout := fun _ _ _ _ => False)
    (tb := fun W D σ H => ∃ Ech : XK, (∀ cls d σ' H', Ech cls d H' → σ'.length = 2 → W cls d σ' H') ∧ σ[0]? = some (some (.ref f)) ∧ H c' = some (CodeO c' q) ∧ tl Ech H fun _ H' => D.nx σ H')
    rfl rfl sc_law_win_heard.nd rfl rfl L2.takes0 (fun W pn xe tk _ => ?_) (.one (c := .ref T.x_BadBook.C) ⟨rfl, by decide, .inl T.x_BadBook.g⟩ (fun a oe cls d pn hz hf => pss_one (ps_ret (pe_op op_add_str pe_str (pe_callB (call_reprAK X.K (X := ((cxOf C8.CX0 X.prog X.w X.K X.mg X.base ["call", "e"] "_law_win_heard" (defScope s_law_win_heard) T.law_win_heard.f cdg X.A X.stack s H C8.E0).nox).suite a ((a, oe) :: pn)) (hr.deeper X.env).units hG) (by rfl) T.n_repr (by decide +kernel) (pa_cons (pe_what (X := (cxOf C8.CX0 X.prog X.w X.K X.mg X.base ["call", "e"] "_law_win_heard" (defScope s_law_win_heard) T.law_win_heard.f cdg X.A X.stack s H C8.E0).nox) T.x_BadBook hz hf (pv 1)) pa_nil))))) (.one (c := .ref T.x_Stray.C) ⟨rfl, by decide, .inl T.x_Stray.g⟩ (fun a oe cls d pn hz hf => pss_one (ps_ret (pe_op op_add_str pe_str (pe_callB (call_reprAK X.K (X := ((cxOf C8.CX0 X.prog X.w X.K X.mg X.base ["call", "e"] "_law_win_heard" (defScope s_law_win_heard) T.law_win_heard.f cdg X.A X.stack s H C8.E0).nox).suite a ((a, oe) :: pn)) (hr.deeper X.env).units hG) (by rfl) T.n_repr (by decide +kernel) (pa_cons (pe_what (X := (cxOf C8.CX0 X.prog X.w X.K X.mg X.base ["call", "e"] "_law_win_heard" (defScope s_law_win_heard) T.law_win_heard.f cdg X.A X.stack s H C8.E0).nox) T.x_Stray hz hf (pv 1)) pa_nil))))) (.one (c := .ref T.x_BadState.C) ⟨rfl, by decide, .inl T.x_BadState.g⟩ (fun a oe cls d pn hz hf => pss_one (ps_ret (pe_op op_add_str pe_str (pe_callB (call_reprAK X.K (X := ((cxOf C8.CX0 X.prog X.w X.K X.mg X.base ["call", "e"] "_law_win_heard" (defScope s_law_win_heard) T.law_win_heard.f cdg X.A X.stack s H C8.E0).nox).suite a ((a, oe) :: pn)) (hr.deeper X.env).units hG) (by rfl) T.n_repr (by decide +kernel) (pa_cons (pe_what (X := (cxOf C8.CX0 X.prog X.w X.K X.mg X.base ["call", "e"] "_law_win_heard" (defScope s_law_win_heard) T.law_win_heard.f cdg X.A X.stack s H C8.E0).nox) T.x_BadState hz hf (pv 1)) pa_nil))))) (.one (c := .ref T.x_NoMessage.C) ⟨rfl, by decide, .inl T.x_NoMessage.g⟩ (fun a oe cls d pn hz hf => pss_one (ps_ret (pe_op op_add_str pe_str (pe_callB (call_reprAK X.K (X := ((cxOf C8.CX0 X.prog X.w X.K X.mg X.base ["call", "e"] "_law_win_heard" (defScope s_law_win_heard) T.law_win_heard.f cdg X.A X.stack s H C8.E0).nox).suite a ((a, oe) :: pn)) (hr.deeper X.env).units hG) (by rfl) T.n_repr (by decide +kernel) (pa_cons (pe_what (X := (cxOf C8.CX0 X.prog X.w X.K X.mg X.base ["call", "e"] "_law_win_heard" (defScope s_law_win_heard) T.law_win_heard.f cdg X.A X.stack s H C8.E0).nox) T.x_NoMessage hz hf (pv 1)) pa_nil))))) (.one (c := .ref T.x_BadMany.C) ⟨rfl, by decide, .inl T.x_BadMany.g⟩ (fun a oe cls d pn hz hf => pss_one (ps_ret (pe_op op_add_str pe_str (pe_callB (call_reprAK X.K (X := ((cxOf C8.CX0 X.prog X.w X.K X.mg X.base ["call", "e"] "_law_win_heard" (defScope s_law_win_heard) T.law_win_heard.f cdg X.A X.stack s H C8.E0).nox).suite a ((a, oe) :: pn)) (hr.deeper X.env).units hG) (by rfl) T.n_repr (by decide +kernel) (pa_cons (pe_what (X := (cxOf C8.CX0 X.prog X.w X.K X.mg X.base ["call", "e"] "_law_win_heard" (defScope s_law_win_heard) T.law_win_heard.f cdg X.A X.stack s H C8.E0).nox) T.x_BadMany hz hf (pv 1)) pa_nil))))) (.one (c := .ref T.x_BadWindow.C) ⟨rfl, by decide, .inl T.x_BadWindow.g⟩ (fun a oe cls d pn hz hf => pss_one (ps_ret (pe_op op_add_str pe_str (pe_callB (call_reprAK X.K (X := ((cxOf C8.CX0 X.prog X.w X.K X.mg X.base ["call", "e"] "_law_win_heard" (defScope s_law_win_heard) T.law_win_heard.f cdg X.A X.stack s H C8.E0).nox).suite a ((a, oe) :: pn)) (hr.deeper X.env).units hG) (by rfl) T.n_repr (by decide +kernel) (pa_cons (pe_what (X := (cxOf C8.CX0 X.prog X.w X.K X.mg X.base ["call", "e"] "_law_win_heard" (defScope s_law_win_heard) T.law_win_heard.f cdg X.A X.stack s H C8.E0).nox) T.x_BadWindow hz hf (pv 1)) pa_nil))))) (.one (c := .ref T.x_NoNumber.C) ⟨rfl, by decide, .inl T.x_NoNumber.g⟩ (fun a oe cls d pn hz hf => pss_one (ps_ret (pe_op op_add_str pe_str (pe_callB (call_reprAK X.K (X := ((cxOf C8.CX0 X.prog X.w X.K X.mg X.base ["call", "e"] "_law_win_heard" (defScope s_law_win_heard) T.law_win_heard.f cdg X.A X.stack s H C8.E0).nox).suite a ((a, oe) :: pn)) (hr.deeper X.env).units hG) (by rfl) T.n_repr (by decide +kernel) (pa_cons (pe_what (X := (cxOf C8.CX0 X.prog X.w X.K X.mg X.base ["call", "e"] "_law_win_heard" (defScope s_law_win_heard) T.law_win_heard.f cdg X.A X.stack s H C8.E0).nox) T.x_NoNumber hz hf (pv 1)) pa_nil))))) (.one (c := .ref T.x_HasLasting.C) ⟨rfl, by decide, .inl T.x_HasLasting.g⟩ (fun a oe cls d pn hz hf => pss_one (ps_ret (pe_op op_add_str pe_str (pe_callB (call_reprAK X.K (X := ((cxOf C8.CX0 X.prog X.w X.K X.mg X.base ["call", "e"] "_law_win_heard" (defScope s_law_win_heard) T.law_win_heard.f cdg X.A X.stack s H C8.E0).nox).suite a ((a, oe) :: pn)) (hr.deeper X.env).units hG) (by rfl) T.n_repr (by decide +kernel) (pa_cons (pe_what (X := (cxOf C8.CX0 X.prog X.w X.K X.mg X.base ["call", "e"] "_law_win_heard" (defScope s_law_win_heard) T.law_win_heard.f cdg X.A X.stack s H C8.E0).nox) T.x_HasLasting hz hf (pv 1)) pa_nil))))) (.one (c := .ref T.x_TooMany.C) ⟨rfl, by decide, .inl T.x_TooMany.g⟩ (fun a oe cls d pn hz hf => pss_one (ps_ret (pe_op op_add_str pe_str (pe_callB (call_reprAK X.K (X := ((cxOf C8.CX0 X.prog X.w X.K X.mg X.base ["call", "e"] "_law_win_heard" (defScope s_law_win_heard) T.law_win_heard.f cdg X.A X.stack s H C8.E0).nox).suite a ((a, oe) :: pn)) (hr.deeper X.env).units hG) (by rfl) T.n_repr (by decide +kernel) (pa_cons (pe_what (X := (cxOf C8.CX0 X.prog X.w X.K X.mg X.base ["call", "e"] "_law_win_heard" (defScope s_law_win_heard) T.law_win_heard.f cdg X.A X.stack s H C8.E0).nox) T.x_TooMany hz hf (pv 1)) pa_nil))))) .none)))))))))) (pss_one (ps_ret pe_str)), ?_⟩
  · refine ⟨fun pins s' σ H' D I h' => ?_⟩
    obtain ⟨Ech, hW, h1, h2, h3⟩ := h'
    exact (pss_one (ps_expr (act _ pn xe Ech _ _ (takes_len (n := 2) tk rfl) hW))).run pins s' σ H' D I ⟨h1, h2, h3⟩
  · refine ⟨_, fun cls d σ' H' hE hl => ?_, rfl, hc, h⟩
    obtain ⟨nm, C, dx, v, dd, rfl, hC, rfl, hd, hv, sh, sl, hq⟩ := hE
    obtain ⟨y0, y1, rfl⟩ : ∃ y0 y1, σ' = [y0, y1] := by
      match σ', hl with
      | [y0, y1], _ => exact ⟨y0, y1, rfl⟩
    rcases hC with ⟨rfl, rfl⟩ | ⟨rfl, rfl⟩ | ⟨rfl, rfl⟩
    · refine ⟨true, exm_is _ _ T.s_BadBook_BadBook, fun _ a na => ?_, fun z => by cases z⟩
      refine ⟨_, rfl, rfl, rfl, dx, _, rfl, hd, _, dd, rfl, hv, sh, _, _, rfl, rfl, ?_, hq⟩
      have : (Str.ofString "BadBook ").length = 8 := by decide +kernel
      exact Nat.le_of_lt (small1000 (by omega))
    · refine ⟨false, exm_is _ _ T.s_Stray_BadBook, (fun z => by cases z), fun _ => ?_⟩
      refine ⟨true, exm_is _ _ T.s_Stray_Stray, fun _ a na => ?_, fun z => by cases z⟩
      refine ⟨_, rfl, rfl, rfl, dx, _, rfl, hd, _, dd, rfl, hv, sh, _, _, rfl, rfl, ?_, hq⟩
      have : (Str.ofString "Stray ").length = 6 := by decide +kernel
      exact Nat.le_of_lt (small1000 (by omega))
    · refine ⟨false, exm_is _ _ T.s_BadWindow_BadBook, (fun z => by cases z), fun _ => ?_⟩
      refine ⟨false, exm_is _ _ T.s_BadWindow_Stray, (fun z => by cases z), fun _ => ?_⟩
      refine ⟨false, exm_is _ _ T.s_BadWindow_BadState, (fun z => by cases z), fun _ => ?_⟩
      refine ⟨false, exm_is _ _ T.s_BadWindow_NoMessage, (fun z => by cases z), fun _ => ?_⟩
      refine ⟨false, exm_is _ _ T.s_BadWindow_BadMany, (fun z => by cases z), fun _ => ?_⟩
      refine ⟨true, exm_is _ _ T.s_BadWindow_BadWindow, fun _ a na => ?_, fun z => by cases z⟩
      refine ⟨_, rfl, rfl, rfl, dx, _, rfl, hd, _, dd, rfl, hv, sh, _, _, rfl, rfl, ?_, hq⟩
      have : (Str.ofString "BadWindow ").length = 10 := by decide +kernel
      exact Nat.le_of_lt (small1000 (by omega))
/-! ### a lambda handed to _law_win_heard -/
open LamX in
theorem pe_heardA {K : PySem.W.Frag} {mg : Str → Option Value} {X : Cx} (hG : X.A.guards = some []) {k : Nat} (T : Tx K mg) {c P : Addr} {params : Arguments} {body : Expr} {scope : Scope} {t : XK → TE} {p lpos pos : Pos} (eK : X.K = K) (em : X.mg = mg) (hg : Gl X "_law_win_heard") (TB : TabB X.base X.mg c P) (hcode : X.env.code = .ref c)
    (hr : Room (k + 2) X.A) (L : LamS X.env.scope scope) (hdef : defaultsOf params X.env = ([], [])) (hbind : ∀ (q : Str) (cl : List (Str × Addr)) (pm cv ctv : Value), bindArgs (PySem.W.kla_fn "<lambda>" q params body scope cl pm cv ctv) ⟨[], []⟩ = pure [])
    (hbody : ∀ (A : Around) (outer : List Env) (s : Shared) (H : Hp) (E : XK) (f c' : Addr), Room k (A.deeper (lamEnv X scope s.heap.objs.size f c')) → PE (lamCx X A outer s H E scope f c') body (t E)) :
    PE X (.Call (.Name "_law_win_heard" p) [.Lambda params body scope lpos] [] pos) (tLam [(P, X.env.qual ++ "<lambda>")] (THeard T) t) := by
  subst eK em
  obtain ⟨oc, od, kV, doc, pm, an, cdv, ct, osl, hfd, lk, cd⟩ := T.law_win_heard.F.ex
  rw [hfd] at lk
  have hb := T.law_win_heard.b
  rw [hfd] at hb
  exact pe_lamcall hg T.law_win_heard.g T.law_win_heard.F.kp lk cd hb sc_law_win_heard rfl (.inl rfl) (heard_gives T (k := k + 1) hr hG rfl rfl) TB hcode (List.mem_singleton.mpr rfl) (fun p hp _ => by rw [List.mem_singleton.mp hp]) hr L hdef hbind hbody
theorem extN_of {L : List Addr} {H H' : Hp} (e : Ext L H H') (n : ∀ b ∈ L, ∃ ps, H b = some (.tbl ps)) : LamX.ExtN H H' := fun b o h k => e b o (fun z => by
  obtain ⟨ps, q⟩ := n b z
  rw [h] at q
  exact k ps (Option.some.inj q)) h
theorem ExtN.tup {H H' : Hp} {K : PySem.W.Frag} {a : Addr} {xs : List V} (e : LamX.ExtN H H') (h : SqT K H a xs) : SqT K H' a xs := by
  rcases h with (h | ⟨o, h⟩) | h
  · exact .inl (.inl (e _ _ h fun ps z => nomatch z))
  · exact .inl (.inr ⟨o, e _ _ h fun ps z => nomatch z⟩)
  · exact .inr h
theorem ExtN.lst {H H' : Hp} {K : PySem.W.Frag} {a : Addr} {xs : List V} (e : LamX.ExtN H H') (h : SqL K H a xs) : SqL K H' a xs := by
  rcases h with (h | ⟨o, h⟩) | h
  · exact .inl (.inl (e _ _ h fun ps z => nomatch z))
  · exact .inl (.inr ⟨o, e _ _ h fun ps z => nomatch z⟩)
  · exact .inr h
mutual
theorem Dp.extN {K : PySem.W.Frag} {H H' : Hp} (e : LamX.ExtN H H') : ∀ {v : V} {d : PyData}, Dp K H v d → Dp K H' v d
  | _, _, .non => .non
  | _, _, .bl b => .bl b
  | _, _, .int i => .int i
  | _, _, .str x => .str x
  | _, _, .lst h t => .lst (ExtN.lst e h) (DpAll.extN e t)
  | _, _, .tup h t => .tup (ExtN.tup e h) (DpAll.extN e t)
theorem DpAll.extN {K : PySem.W.Frag} {H H' : Hp} (e : LamX.ExtN H H') : ∀ {vs : List V} {ds : List PyData}, DpAll K H vs ds → DpAll K H' vs ds
  | _, _, .nil => .nil
  | _, _, .cons h t => .cons (Dp.extN e h) (DpAll.extN e t)
end
theorem MvV.extN {K : PySem.W.Frag} {H H' : Hp} (e : LamX.ExtN H H') {p : Addr} {m : Nat × Nat} (h : MvV K H p m) : MvV K H' p m := ExtN.tup e h
theorem StV.extN {K : PySem.W.Frag} {H H' : Hp} (e : LamX.ExtN H H') {v : V} {s : State} (h : StV K H v s) : StV K H' v s := by
  obtain ⟨a, ps, rfl, ⟨o, h1, hd⟩, h2⟩ := h
  exact ⟨a, ps, rfl, ⟨o, e _ _ h1 fun ps z => (nomatch z), hd⟩, Paired.imp h2 fun _ _ q => q.extN e⟩
theorem BkV.extN {K : PySem.W.Frag} {H H' : Hp} (e : LamX.ExtN H H') {v : V} {b : Book} (h : BkV K H v b) : BkV K H' v b := by
  obtain ⟨a, vs, rfl, h1, h2⟩ := h
  exact ⟨a, vs, rfl, ExtN.tup e h1, Paired.imp h2 fun _ _ q => q.extN e⟩
theorem Entry.extN {K : PySem.W.Frag} {CB CS : Addr} {H H' : Hp} {v : V} (h : Entry K CB CS H v) (e : LamX.ExtN H H') : Entry K CB CS H' v := by
  obtain ⟨t, vt, d, C, x, nm, rfl, h1, h2, r⟩ := h
  exact ⟨t, vt, d, C, x, nm, rfl, ExtN.tup e h1, Dp.extN e h2, r⟩
theorem PoolAt.not_tbl {H : Hp} {p l q : Addr} {ts : Array Value} (h : PoolAt H p l) (t : H q = some (.tbl ts)) : q ∉ [p, l] := by
  obtain ⟨_, x, y, ls, h1, h2, _⟩ := h
  refine off2 (fun z => ?_) (fun z => ?_)
  · rw [z, h1] at t; cases t
  · rw [z, h2] at t; cases t
end
end Nv
set_option linter.all false
namespace Nv
open PySem PySem.Spec PyProof.Rows L2
/-! ### rows, by their length -/
def lvM (b : Book) (s : Nat) : Nat → List (List Nat × Nat)
  | 0 => [([], s)]
  | n + 1 => ((lvM b s n).map fun q => (mvs b q.2).map fun p => (q.1 ++ [p.1], p.2)).flatten
def rowsM (b : Book) (s : Nat) : Nat → List (List Nat)
  | 0 => [[]]
  | n + 1 => rowsM b s n ++ (lvM b s (n + 1)).map (·.1)
def nextM (b : Book) (s m : Nat) : Option Nat := ((mvs b s).find? fun p => decide (p.1 = m)).map (·.2)
def atM (b : Book) : Nat → List Nat → Option Nat
  | s, [] => some s
  | s, m :: r => match nextM b s m with
    | some t => atM b t r
    | none => none
theorem msg_inj {b : Book} (fb : FormB b) {s : Nat} {p q : Nat × Nat} (hp : p ∈ mvs b s) (hq : q ∈ mvs b s) (e : p.1 = q.1) : p = q := by
  have hs : s < b.length := by
    by_cases hs : s < b.length
    · exact hs
    · rw [mvs_out (by omega)] at hp
      cases hp
  have h := (fb.ok hs).rise
  generalize mvs b s = l at *
  induction l with
  | nil => cases hp
  | cons x r ih =>
    rw [List.map_cons, List.pairwise_cons] at h
    rcases List.mem_cons.mp hp with rfl | hp' <;> rcases List.mem_cons.mp hq with rfl | hq'
    · rfl
    · have := h.1 q.1 (List.mem_map.mpr ⟨q, hq', rfl⟩)
      omega
    · have := h.1 p.1 (List.mem_map.mpr ⟨p, hp', rfl⟩)
      omega
    · exact ih hp' hq' h.2
theorem next_mem {b : Book} (fb : FormB b) {s : Nat} {p : Nat × Nat} (hp : p ∈ mvs b s) : nextM b s p.1 = some p.2 := by
  unfold nextM
  cases e : (mvs b s).find? fun q => decide (q.1 = p.1) with
  | none =>
    have := List.find?_eq_none.mp e p hp
    simp at this
  | some q =>
    have h1 := List.mem_of_find?_eq_some e
    have h2 := List.find?_some e
    have := msg_inj fb hp h1 (of_decide_eq_true h2).symm
    rw [this]
    rfl
theorem at_snoc {b : Book} : ∀ (r : List Nat) (s h m : Nat), atM b s r = some h → atM b s (r ++ [m]) = nextM b h m
  | [], s, h, m, e => by
    cases e
    show (match nextM b s m with | some t => atM b t [] | none => none) = _
    cases nextM b s m <;> rfl
  | x :: r, s, h, m, e => by
    show (match nextM b s x with | some t => atM b t (r ++ [m]) | none => none) = _
    have e : (match nextM b s x with | some t => atM b t r | none => none) = some h := e
    cases hn : nextM b s x with
    | none => rw [hn] at e; cases e
    | some t =>
      rw [hn] at e
      exact at_snoc r t h m e
theorem mem_lv {b : Book} {s n : Nat} {x : List Nat × Nat} : x ∈ lvM b s (n + 1) ↔ ∃ q ∈ lvM b s n, ∃ p ∈ mvs b q.2, x = (q.1 ++ [p.1], p.2) := by
  show x ∈ (((lvM b s n).map fun q => (mvs b q.2).map fun p => (q.1 ++ [p.1], p.2)).flatten) ↔ _
  rw [List.mem_flatten]
  constructor
  · rintro ⟨l, hl, hx⟩
    obtain ⟨q, hq, rfl⟩ := List.mem_map.mp hl
    obtain ⟨p, hp, rfl⟩ := List.mem_map.mp hx
    exact ⟨q, hq, p, hp, rfl⟩
  · rintro ⟨q, hq, p, hp, rfl⟩
    exact ⟨_, List.mem_map.mpr ⟨q, hq, rfl⟩, List.mem_map.mpr ⟨p, hp, rfl⟩⟩
theorem lv_lt {b : Book} (fb : FormB b) {s : Nat} (hs : s < b.length) : ∀ n, ∀ q ∈ lvM b s n, q.2 < b.length
  | 0, q, hq => by rw [List.mem_singleton.mp hq]; exact hs
  | n + 1, q, hq => by
    obtain ⟨x, _, p, hp, rfl⟩ := mem_lv.mp hq
    exact fb.to hp
theorem lv_at {b : Book} (fb : FormB b) {s : Nat} : ∀ n, ∀ q ∈ lvM b s n, atM b s q.1 = some q.2
  | 0, q, hq => by rw [List.mem_singleton.mp hq]; rfl
  | n + 1, q, hq => by
    obtain ⟨x, hx, p, hp, rfl⟩ := mem_lv.mp hq
    rw [at_snoc _ _ _ _ (lv_at fb n x hx)]
    exact next_mem fb hp
theorem lv_row {b : Book} (fb : FormB b) {s : Nat} : ∀ n, ∀ q ∈ lvM b s n, (∀ m ∈ q.1, m ≤ 99) ∧ q.1.length = n
  | 0, q, hq => by rw [List.mem_singleton.mp hq]; exact ⟨fun m hm => (nomatch hm), rfl⟩
  | n + 1, q, hq => by
    obtain ⟨x, hx, p, hp, rfl⟩ := mem_lv.mp hq
    obtain ⟨h1, h2⟩ := lv_row fb n x hx
    have hs : x.2 < b.length := by
      by_cases hs : x.2 < b.length
      · exact hs
      · rw [mvs_out (by omega)] at hp
        cases hp
    refine ⟨fun m hm => ?_, by simp [h2]⟩
    rcases List.mem_append.mp hm with hm | hm
    · exact h1 m hm
    · rw [List.mem_singleton.mp hm]
      exact (fb.ok hs).msg p hp
theorem lv_ex {b : Book} (fb : FormB b) {s : Nat} : ∀ n k, k ∈ exL b s n ↔ ∃ q ∈ lvM b s n, q.2 = k
  | 0, k => by
    show k ∈ [s] ↔ ∃ q ∈ [(([] : List Nat), s)], q.2 = k
    simp [eq_comm]
  | n + 1, k => by
    show k ∈ nextL b (exL b s n) ↔ _
    rw [mem_next fb]
    constructor
    · rintro ⟨j, hj, p, hp, e⟩
      obtain ⟨q, hq, rfl⟩ := (lv_ex fb n j).mp hj
      exact ⟨_, mem_lv.mpr ⟨q, hq, p, hp, rfl⟩, e⟩
    · rintro ⟨x, hx, e⟩
      obtain ⟨q, hq, p, hp, rfl⟩ := mem_lv.mp hx
      exact ⟨q.2, (lv_ex fb n _).mpr ⟨q, hq, rfl⟩, p, hp, e⟩
theorem lv_len {b : Book} (fb : FormB b) {s : Nat} : ∀ n, (lvM b s n).length ≤ 5 ^ n
  | 0 => by simp [lvM]
  | n + 1 => by
    have ih := lv_len (b := b) fb (s := s) n
    show (((lvM b s n).map fun q => (mvs b q.2).map fun p => (q.1 ++ [p.1], p.2)).flatten).length ≤ _
    have : ∀ l : List (List Nat × Nat), ((l.map fun q => (mvs b q.2).map fun p => (q.1 ++ [p.1], p.2)).flatten).length ≤ 5 * l.length := by
      intro l
      induction l with
      | nil => simp
      | cons x r ih =>
        rw [List.map_cons, List.flatten_cons, List.length_append, List.length_map, List.length_cons]
        have : (mvs b x.2).length ≤ 5 := by
          by_cases hs : x.2 < b.length
          · exact (fb.ok hs).few
          · rw [mvs_out (by omega)]
            simp
        omega
    have := this (lvM b s n)
    rw [Nat.pow_succ]
    omega
theorem mem_rows {b : Book} {s : Nat} : ∀ n r, r ∈ rowsM b s n ↔ ∃ j, j ≤ n ∧ ∃ q ∈ lvM b s j, q.1 = r
  | 0, r => by
    show r ∈ [[]] ↔ _
    constructor
    · intro h
      rw [List.mem_singleton.mp h]
      exact ⟨0, Nat.le_refl _, _, List.mem_singleton.mpr rfl, rfl⟩
    · rintro ⟨j, hj, q, hq, e⟩
      have : j = 0 := by omega
      subst this
      rw [List.mem_singleton.mp hq] at e
      rw [← e]
      exact List.mem_singleton.mpr rfl
  | n + 1, r => by
    show r ∈ rowsM b s n ++ (lvM b s (n + 1)).map (·.1) ↔ _
    rw [List.mem_append, mem_rows n r, List.mem_map]
    constructor
    · rintro (⟨j, hj, h⟩ | ⟨q, hq, e⟩)
      · exact ⟨j, by omega, h⟩
      · exact ⟨n + 1, Nat.le_refl _, q, hq, e⟩
    · rintro ⟨j, hj, q, hq, e⟩
      by_cases h : j ≤ n
      · exact .inl ⟨j, h, q, hq, e⟩
      · have : j = n + 1 := by omega
        subst this
        exact .inr ⟨q, hq, e⟩
theorem rows_succ {b : Book} {s : Nat} (n : Nat) : (rowsM b s (n + 1)).length = (rowsM b s n).length + (lvM b s (n + 1)).length := by
  show (rowsM b s n ++ (lvM b s (n + 1)).map (·.1)).length = _
  rw [List.length_append, List.length_map]
theorem rows_len {b : Book} (fb : FormB b) {s n : Nat} (hn : n ≤ 3) : (rowsM b s n).length ≤ 156 ∧ (lvM b s n).length ≤ 125 := by
  have l0 := lv_len fb (s := s) 0
  have l1 := lv_len fb (s := s) 1
  have l2 := lv_len fb (s := s) 2
  have l3 := lv_len fb (s := s) 3
  have r0 : (rowsM b s 0).length = 1 := rfl
  have r1 : (rowsM b s 1).length = (rowsM b s 0).length + (lvM b s 1).length := rows_succ 0
  have r2 : (rowsM b s 2).length = (rowsM b s 1).length + (lvM b s 2).length := rows_succ 1
  have r3 : (rowsM b s 3).length = (rowsM b s 2).length + (lvM b s 3).length := rows_succ 2
  have : n = 0 ∨ n = 1 ∨ n = 2 ∨ n = 3 := by omega
  rcases this with rfl | rfl | rfl | rfl <;> exact ⟨by omega, by omega⟩
/-- the states to which the rows come -/
theorem rows_ends {b : Book} (fb : FormB b) {t n : Nat} (ht : t < b.length) (hn : n < 8) {k : Nat} : (∃ r ∈ rowsM b t n, atM b t r = some k) ↔ k ∈ ledL b t (n + 1) := by
  rw [led_ends fb ht, mem_ends fb ht, Nat.min_eq_left (by omega)]
  constructor
  · rintro ⟨r, hr, e⟩
    obtain ⟨j, hj, q, hq, rfl⟩ := (mem_rows n r).mp hr
    rw [lv_at fb j q hq] at e
    exact ⟨j, by omega, (lv_ex fb j k).mpr ⟨q, hq, Option.some.inj e⟩⟩
  · rintro ⟨j, hj, h⟩
    obtain ⟨q, hq, rfl⟩ := (lv_ex fb j k).mp h
    exact ⟨q.1, (mem_rows n q.1).mpr ⟨j, by omega, q, hq, rfl⟩, lv_at fb j q hq⟩
theorem ledL_srt (b : Book) (t m : Nat) : (ledL b t m).Pairwise (· < ·) := by
  unfold ledL
  split
  · exact .nil
  · exact wiL_srt _ _ _
theorem led_eq_ends {b : Book} (fb : FormB b) {t m : Nat} (ht : t < b.length) : ledL b t m = endsL b t (min m 8) := srt_eq (ledL_srt b t m) (endsL_srt b t _) fun k => led_ends fb ht
theorem led_eq_full {b : Book} (fb : FormB b) {t m : Nat} (ht : t < b.length) (h : b.length ≤ m) : ledL b t m = endsL b t (min 8 8) := by
  rw [led_full fb ht h, ← led_full fb ht fb.eight]
  exact led_eq_ends fb ht
theorem led_len {b : Book} {t m : Nat} (ht : t < b.length) : (ledL b t m).length ≤ b.length := nodup_le (srt_nodup (ledL_srt b t m)) (ledL_lt ht)
end Nv
set_option Elab.async false
set_option linter.all false
set_option maxRecDepth 100000
namespace Nv
open PySem PySem.Spec PyProof.Rows L2
theorem op_catAK (K : PySem.W.Frag) {X : Cx} (h : X.K = K := by rfl) : OpR X (binaryOp .Add) (rCatA K) := by subst h; exact op_catA
/-! ### sorted(set), of few unlike numbers -/
theorem SetR_few {w : World} {h : Heap} {a : Addr} {S : Int → Bool} {n : Nat} (R : SetR w h a S n) {L : List Int} (hL : ∀ k, S k = true → k ∈ L) : n ≤ L.length := by
  obtain ⟨o, es, ep, t, ho, hx, hd, g, nd, hm, hb, hf, hn, _⟩ := R
  have := List.Nodup.length_le_of_subset nd (l₂ := L) fun k hk => hL k ((hm k).mpr hk)
  rw [List.length_map, Array.length_toList] at this
  omega
def rSortedSetL (w : World) : List V → Hp → VK → Prop := fun vs H Q => ∃ (a : Addr) (S : Int → Bool) (n : Nat) (L : List Int), vs = [V.ref a] ∧ H a = some (SetO w a S n) ∧ (∀ k, S k = true → k ∈ L) ∧ L.length < 64 ∧
  ∀ (ns : List Int) (p : Addr), ns.Pairwise (· < ·) → (∀ k : Int, k ∈ ns ↔ S k = true) → H p = none → Q (.ref p) (upd H p (.lst (ns.map V.int)))
theorem cr_sortedSetL {X : Cx} (hc : X.calm = true) : CallR X (.builtin "sorted") (rSortedSetL X.w) := by
  intro pins s σ H vs us Q I r h
  obtain ⟨a, S, n, L, e, ha, hS, h64, q⟩ := h
  have R := setO_get I ha
  have := SetR_few R hS
  exact cr_sortedSet hc pins s σ H vs us Q I r ⟨a, S, n, e, ha, by omega, fun ns p h1 h2 _ h4 => q ns p h1 h2 h4⟩
/-! ### rows and pairs of a row and a state -/
def RwV (K : PySem.W.Frag) (H : Hp) (v : V) (r : List Nat) : Prop := ∃ a : Addr, v = .ref a ∧ SqT K H a (r.map nV)
def PrV (K : PySem.W.Frag) (H : Hp) (v : V) (q : List Nat × Nat) : Prop := ∃ (a : Addr) (u : V), v = .ref a ∧ SqT K H a [u, .int q.2] ∧ RwV K H u q.1
theorem RwV.ext {K : PySem.W.Frag} {L : List Addr} {H H' : Hp} {v : V} {r : List Nat} (h : RwV K H v r) (e : Ext L H H') (l : Lsts L H) : RwV K H' v r := by
  obtain ⟨a, rfl, h1⟩ := h
  exact ⟨a, rfl, e.tup l h1⟩
theorem PrV.ext {K : PySem.W.Frag} {L : List Addr} {H H' : Hp} {v : V} {q : List Nat × Nat} (h : PrV K H v q) (e : Ext L H H') (l : Lsts L H) : PrV K H' v q := by
  obtain ⟨a, u, rfl, h1, h2⟩ := h
  exact ⟨a, u, rfl, e.tup l h1, h2.ext e l⟩
theorem RwV.ext0 {K : PySem.W.Frag} {H H' : Hp} {v : V} {r : List Nat} (h : RwV K H v r) (e : Ext [] H H') : RwV K H' v r := h.ext e Lsts.nil
theorem PrV.ext0 {K : PySem.W.Frag} {H H' : Hp} {v : V} {q : List Nat × Nat} (h : PrV K H v q) (e : Ext [] H H') : PrV K H' v q := h.ext e Lsts.nil
theorem RwV.put {K : PySem.W.Frag} {H : Hp} {v : V} {r : List Nat} {p : Addr} {xs ys : List V} (h : RwV K H v r) (hp : H p = some (.lst xs)) : RwV K (upd H p (.lst ys)) v r := h.ext (L := [p]) (.wr (by simp)) (one_lst hp)
theorem PrV.put {K : PySem.W.Frag} {H : Hp} {v : V} {q : List Nat × Nat} {p : Addr} {xs ys : List V} (h : PrV K H v q) (hp : H p = some (.lst xs)) : PrV K (upd H p (.lst ys)) v q := h.ext (L := [p]) (.wr (by simp)) (one_lst hp)
theorem Paired.app {α β : Type} {F : α → β → Prop} : ∀ {l₁ : List α} {m₁ : List β} {l₂ : List α} {m₂ : List β}, Paired F l₁ m₁ → Paired F l₂ m₂ → Paired F (l₁ ++ l₂) (m₁ ++ m₂)
  | _, _, _, _, .nil, h => h
  | _, _, _, _, .cons r t, h => .cons r (Paired.app t h)
theorem next_head {b : Book} (fb : FormB b) {s : Nat} {p : Nat × Nat} (hp : p ∈ mvs b s) : ∃ rest, ((mvs b s).filter fun q => decide (q.1 = p.1)).map (·.2) = p.2 :: rest := by
  have h := next_mem fb hp
  unfold nextM at h
  rw [← List.head?_filter, ← List.head?_map] at h
  cases e : ((mvs b s).filter fun q => decide (q.1 = p.1)).map (·.2) with
  | nil => rw [e] at h; cases h
  | cons x r =>
    rw [e] at h
    have h := Option.some.inj h
    rw [h]
    exact ⟨r, rfl⟩
theorem next_some {b : Book} {s m t : Nat} (h : nextM b s m = some t) : ∃ p ∈ mvs b s, p.1 = m ∧ p.2 = t := by
  unfold nextM at h
  cases e : (mvs b s).find? fun p => decide (p.1 = m) with
  | none => rw [e] at h; cases h
  | some p =>
    rw [e] at h
    exact ⟨p, List.mem_of_find?_eq_some e, of_decide_eq_true (by simpa using List.find?_some e), Option.some.inj h⟩
theorem drop_at {α : Type} {l : List α} {i : Nat} {x : α} (h : l[i]? = some x) : l.drop i = x :: l.drop (i + 1) := by
  obtain ⟨hi, e⟩ := List.getElem?_eq_some_iff.mp h
  rw [List.drop_eq_getElem_cons hi, e]
end Nv
set_option linter.all false
namespace Nv
open PySem PySem.Spec PyProof.Rows L2
/-! ### how many rows lead to a ring -/
def ringB (b : Book) (s : Nat) : Bool := decide (0 < waysM b s)
def cM (b : Book) : Nat → Nat → Nat
  | 0, _ => 0
  | r + 1, s => if ringB b s = true then 1 else ((mvs b s).map fun p => cM b r p.2).sum
theorem ring_iff {b : Book} (fb : FormB b) {s : Nat} : ringB b s = true ↔ ∃ p ∈ mvs b s, Rt b p.2 s := by
  unfold ringB waysM
  rw [decide_eq_true_eq, List.length_pos_iff]
  constructor
  · intro h
    obtain ⟨p, hp⟩ := List.exists_mem_of_ne_nil _ h
    obtain ⟨h1, h2⟩ := List.mem_filter.mp hp
    exact ⟨p, h1, (mem_wi fb (fb.to h1) (by rw [Nat.min_self]; omega)).mp (of_decide_eq_true h2)⟩
  · rintro ⟨p, hp, h⟩ e
    have : p ∈ ([] : List (Nat × Nat)) := by
      rw [← e]
      exact List.mem_filter.mpr ⟨hp, decide_eq_true ((mem_wi fb (fb.to hp) (by rw [Nat.min_self]; omega)).mpr h)⟩
    cases this
def nonR (b : Book) (s : Nat) : List Nat := (List.range b.length).filter fun u => !ringB b u && decide (u ∈ wiL b s b.length)
theorem mem_nonR {b : Book} (fb : FormB b) {s u : Nat} (hs : s < b.length) : u ∈ nonR b s ↔ u < b.length ∧ ringB b u = false ∧ Rt b s u := by
  unfold nonR
  rw [mem_filt, Bool.and_eq_true, decide_eq_true_eq, mem_wi fb hs (by omega)]
  constructor
  · rintro ⟨h1, h2, h3⟩
    exact ⟨h1, by simpa using h2, h3⟩
  · rintro ⟨h1, h2, h3⟩
    exact ⟨h1, by simpa using h2, h3⟩
theorem nonR_nd (b : Book) (s : Nat) : (nonR b s).Nodup := srt_nodup (filt_srt _ _)
theorem nonR_lt {b : Book} (fb : FormB b) {s : Nat} (hs : s < b.length) (hn : ringB b s = false) {p : Nat × Nat} (hp : p ∈ mvs b s) : (nonR b p.2).length < (nonR b s).length := by
  have hp2 := fb.to hp
  have nin : s ∉ nonR b p.2 := fun z => by
    have := (mem_nonR fb hp2).mp z
    rw [(ring_iff fb).mpr ⟨p, hp, this.2.2⟩] at hn
    cases hn
  have nd : (s :: nonR b p.2).Nodup := List.nodup_cons.mpr ⟨nin, nonR_nd _ _⟩
  have := List.Nodup.length_le_of_subset nd (l₂ := nonR b s) fun k hk => by
    rcases List.mem_cons.mp hk with rfl | hk
    · exact (mem_nonR fb hs).mpr ⟨hs, hn, .refl _⟩
    · obtain ⟨h1, h2, h3⟩ := (mem_nonR fb hp2).mp hk
      exact (mem_nonR fb hs).mpr ⟨h1, h2, (Rt.one hp).trans h3⟩
  rw [List.length_cons] at this
  omega
theorem c_stab {b : Book} (fb : FormB b) : ∀ (n s : Nat), s < b.length → (nonR b s).length ≤ n → ∀ k, n + 1 ≤ k → cM b k s = cM b (n + 1) s := by
  intro n
  induction n with
  | zero =>
    intro s hs hN k hk
    have hr : ringB b s = true := by
      cases h : ringB b s with
      | true => rfl
      | false =>
        have : s ∈ nonR b s := (mem_nonR fb hs).mpr ⟨hs, h, .refl _⟩
        have := List.length_pos_of_mem this
        omega
    obtain ⟨k, rfl⟩ : ∃ j, k = j + 1 := ⟨k - 1, by omega⟩
    show (if ringB b s = true then 1 else _) = (if ringB b s = true then 1 else _)
    rw [if_pos hr, if_pos hr]
  | succ n ih =>
    intro s hs hN k hk
    obtain ⟨k, rfl⟩ : ∃ j, k = j + 1 := ⟨k - 1, by omega⟩
    show (if ringB b s = true then 1 else _) = (if ringB b s = true then 1 else _)
    cases h : ringB b s with
    | true => rfl
    | false =>
      rw [if_neg (by simp), if_neg (by simp)]
      congr 1
      refine List.map_congr_left fun p hp => ?_
      have := nonR_lt fb hs h hp
      exact ih p.2 (fb.to hp) (by omega) k (by omega)
theorem c_zero {b : Book} (h : ∀ s, ringB b s = false) : ∀ k s, cM b k s = 0
  | 0, _ => rfl
  | k + 1, s => by
    show (if ringB b s = true then 1 else ((mvs b s).map fun p => cM b k p.2).sum) = 0
    rw [if_neg (by rw [h s]; simp)]
    have : (mvs b s).map (fun p => cM b k p.2) = (mvs b s).map fun _ => 0 := List.map_congr_left fun p _ => c_zero h k p.2
    rw [this]
    induction mvs b s with
    | nil => rfl
    | cons x r ih => simpa using ih
theorem c_len {b : Book} (fb : FormB b) {s : Nat} (hs : s < b.length) : cM b b.length s = cM b 9 s := by
  have h8 := fb.eight
  have h1 := fb.one
  by_cases h : ∃ u, ringB b u = true
  · obtain ⟨u, hu⟩ := h
    have hub : u < b.length := by
      by_cases hub : u < b.length
      · exact hub
      · unfold ringB waysM at hu
        rw [mvs_out (by omega)] at hu
        cases hu
    have nin : u ∉ nonR b s := fun z => by
      have := ((mem_nonR fb hs).mp z).2.1
      rw [hu] at this
      cases this
    have nd : (u :: nonR b s).Nodup := List.nodup_cons.mpr ⟨nin, nonR_nd _ _⟩
    have := nodup_le (n := b.length) nd fun k hk => by
      rcases List.mem_cons.mp hk with rfl | hk
      · exact hub
      · exact ((mem_nonR fb hs).mp hk).1
    rw [List.length_cons] at this
    have a := c_stab fb (b.length - 1) s hs (by omega) b.length (by omega)
    have c := c_stab fb (b.length - 1) s hs (by omega) 9 (by omega)
    rw [a, c]
  · have h : ∀ s, ringB b s = false := fun s => by
      cases e : ringB b s with
      | false => rfl
      | true => exact absurd ⟨s, e⟩ h
    rw [c_zero h, c_zero h]
/-! ### numbers of rows, by the state -/
def wS (l : List (Nat × Nat)) (f : Nat → Nat) : Nat := (l.map fun q => q.2 * f q.1).sum
def getN (l : List (Nat × Nat)) (k : Nat) : Nat := ((l.find? fun q => decide (q.1 = k)).map (·.2)).getD 0
def putN (l : List (Nat × Nat)) (k n : Nat) : List (Nat × Nat) := if (l.any fun q => decide (q.1 = k)) = true then l.map (fun q => if q.1 = k then (q.1, n) else q) else l ++ [(k, n)]
theorem wS_nil (f : Nat → Nat) : wS [] f = 0 := rfl
theorem wS_cons (q : Nat × Nat) (l : List (Nat × Nat)) (f : Nat → Nat) : wS (q :: l) f = q.2 * f q.1 + wS l f := rfl
theorem wS_app (l m : List (Nat × Nat)) (f : Nat → Nat) : wS (l ++ m) f = wS l f + wS m f := by
  unfold wS
  rw [List.map_append, List.sum_append]
theorem put_in {l : List (Nat × Nat)} {k n : Nat} (nd : (l.map (·.1)).Nodup) (hk : k ∈ l.map (·.1)) (f : Nat → Nat) : wS (l.map fun q => if q.1 = k then (q.1, getN l k + n) else q) f = wS l f + n * f k := by
  induction l with
  | nil => cases hk
  | cons q r ih =>
    rw [List.map_cons, List.nodup_cons] at nd
    rw [List.map_cons, wS_cons, wS_cons]
    by_cases e : q.1 = k
    · have g : getN (q :: r) k = q.2 := by simp [getN, List.find?_cons, e]
      have same : (r.map fun q' => if q'.1 = k then (q'.1, getN (q :: r) k + n) else q') = r := by
        conv => rhs; rw [← List.map_id r]
        refine List.map_congr_left fun x hx => ?_
        have : x.1 ≠ k := fun z => nd.1 (by rw [e, ← z]; exact List.mem_map.mpr ⟨x, hx, rfl⟩)
        rw [if_neg this]
        rfl
      rw [same, if_pos e, g]
      show (q.2 + n) * f q.1 + wS r f = q.2 * f q.1 + wS r f + n * f k
      rw [e, Nat.add_mul]
      omega
    · have g : getN (q :: r) k = getN r k := by simp [getN, List.find?_cons, e]
      have hk' : k ∈ r.map (·.1) := by
        rcases List.mem_cons.mp hk with z | z
        · exact absurd z.symm e
        · exact z
      have := ih nd.2 hk'
      rw [if_neg e, g, this]
      omega
theorem any_key {l : List (Nat × Nat)} {k : Nat} : (l.any fun q => decide (q.1 = k)) = true ↔ k ∈ l.map (·.1) := by
  rw [List.any_eq_true, List.mem_map]
  constructor
  · rintro ⟨q, hq, e⟩
    exact ⟨q, hq, of_decide_eq_true e⟩
  · rintro ⟨q, hq, e⟩
    exact ⟨q, hq, decide_eq_true e⟩
theorem get_out {l : List (Nat × Nat)} {k : Nat} (h : k ∉ l.map (·.1)) : getN l k = 0 := by
  unfold getN
  cases e : l.find? fun q => decide (q.1 = k) with
  | none => rfl
  | some q =>
    exact absurd (List.mem_map.mpr ⟨q, List.mem_of_find?_eq_some e, of_decide_eq_true (by simpa using List.find?_some e)⟩) h
theorem wS_put {l : List (Nat × Nat)} (nd : (l.map (·.1)).Nodup) (k n : Nat) (f : Nat → Nat) : wS (putN l k (getN l k + n)) f = wS l f + n * f k := by
  unfold putN
  by_cases h : (l.any fun q => decide (q.1 = k)) = true
  · rw [if_pos h]
    exact put_in nd (any_key.mp h) f
  · rw [if_neg h, get_out (fun z => h (any_key.mpr z)), wS_app, wS_cons, wS_nil, Nat.zero_add]
    rfl
theorem put_keys {l : List (Nat × Nat)} {k n : Nat} : (putN l k n).map (·.1) = if k ∈ l.map (·.1) then l.map (·.1) else l.map (·.1) ++ [k] := by
  unfold putN
  by_cases h : (l.any fun q => decide (q.1 = k)) = true
  · rw [if_pos h, if_pos (any_key.mp h), List.map_map]
    refine List.map_congr_left fun x _ => ?_
    show (if x.1 = k then (x.1, n) else x).1 = x.1
    split <;> rfl
  · rw [if_neg h, if_neg (fun z => h (any_key.mpr z)), List.map_append]
    rfl
theorem put_nd {l : List (Nat × Nat)} {k n : Nat} (nd : (l.map (·.1)).Nodup) : ((putN l k n).map (·.1)).Nodup := by
  rw [put_keys]
  split
  · exact nd
  · rename_i h
    rw [List.nodup_append]
    exact ⟨nd, by simp, fun x hx y hy e => h (by rw [← List.mem_singleton.mp hy, ← e]; exact hx)⟩
theorem put_lt {l : List (Nat × Nat)} {k n m : Nat} (h : ∀ x ∈ l.map (·.1), x < m) (hk : k < m) : ∀ x ∈ (putN l k n).map (·.1), x < m := by
  rw [put_keys]
  split
  · exact h
  · intro x hx
    rcases List.mem_append.mp hx with hx | hx
    · exact h x hx
    · rw [List.mem_singleton.mp hx]
      exact hk
theorem get_at {l : List (Nat × Nat)} (nd : (l.map (·.1)).Nodup) {i : Nat} {q : Nat × Nat} (h : l[i]? = some q) : l.find? (fun x => decide (x.1 = q.1)) = some q := by
  have hm := List.mem_of_getElem? h
  clear h
  induction l with
  | nil => cases hm
  | cons x r ih =>
    rw [List.map_cons, List.nodup_cons] at nd
    by_cases e : x.1 = q.1
    · rcases List.mem_cons.mp hm with rfl | hm
      · simp [List.find?_cons]
      · exact absurd (by rw [e]; exact List.mem_map.mpr ⟨q, hm, rfl⟩) nd.1
    · rcases List.mem_cons.mp hm with rfl | hm
      · exact absurd rfl e
      · rw [List.find?_cons]
        simp only [e, decide_false]
        exact ih nd.2 hm
/-- such numbers as a dict -/
def kvN (l : List (Nat × Nat)) : List (Key × V) := l.map fun q => (kN q.1, nV q.2)
theorem kN_inj {a b : Nat} : kN a = kN b ↔ a = b := by
  constructor
  · intro h
    have := Sum.inl.inj h
    omega
  · rintro rfl; rfl
theorem val_kvN (l : List (Nat × Nat)) (k : Nat) : valV (kvN l) (kN k) = (l.find? fun q => decide (q.1 = k)).map fun q => nV q.2 := by
  unfold valV kvN
  rw [List.find?_map]
  have : ((fun kv : Key × V => decide (kv.1 = kN k)) ∘ fun q : Nat × Nat => (kN q.1, nV q.2)) = fun q => decide (q.1 = k) := by
    funext q
    exact decide_eq_decide.mpr kN_inj
  rw [this]
  cases l.find? fun q => decide (q.1 = k) <;> rfl
theorem getD_kvN (l : List (Nat × Nat)) (k : Nat) : (valV (kvN l) (kN k)).getD (.int 0) = nV (getN l k) := by
  rw [val_kvN]
  unfold getN
  cases l.find? fun q => decide (q.1 = k) <;> rfl
theorem put_kvN (l : List (Nat × Nat)) (k n : Nat) : putK (kvN l) (kN k) (nV n) = kvN (putN l k n) := by
  unfold putK putN kvN
  rw [List.any_map]
  have e : ((fun kv : Key × V => decide (kv.1 = kN k)) ∘ fun q : Nat × Nat => (kN q.1, nV q.2)) = fun q => decide (q.1 = k) := by
    funext q
    exact decide_eq_decide.mpr kN_inj
  rw [e]
  by_cases h : (l.any fun q => decide (q.1 = k)) = true
  · rw [if_pos h, if_pos h, List.map_map, List.map_map]
    refine List.map_congr_left fun q _ => ?_
    show (if kN q.1 = kN k then (kN q.1, nV n) else (kN q.1, nV q.2)) = _
    by_cases e : q.1 = k
    · simp [e]
    · rw [if_neg (fun z => e (kN_inj.mp z))]
      simp [e]
  · rw [if_neg h, if_neg h, List.map_append]
    rfl
/-! ### the first fork -/
inductive Chain (b : Book) : Nat → Nat → Nat → Prop
  | zero {s : Nat} : Chain b s 0 s
  | step {s j f : Nat} {p : Nat × Nat} : mvs b s = [p] → Chain b p.2 j f → Chain b s (j + 1) f
theorem ex_first {b : Book} (fb : FormB b) : ∀ (j s k : Nat), k ∈ exL b s (j + 1) ↔ ∃ p ∈ mvs b s, k ∈ exL b p.2 j
  | 0, s, k => by
    show k ∈ nextL b [s] ↔ ∃ p ∈ mvs b s, k ∈ [p.2]
    rw [mem_next fb]
    constructor
    · rintro ⟨x, hx, p, hp, e⟩
      rw [List.mem_singleton.mp hx] at hp
      exact ⟨p, hp, by simp [e]⟩
    · rintro ⟨p, hp, e⟩
      exact ⟨s, by simp, p, hp, (List.mem_singleton.mp e).symm⟩
  | j + 1, s, k => by
    show k ∈ nextL b (exL b s (j + 1)) ↔ ∃ p ∈ mvs b s, k ∈ nextL b (exL b p.2 j)
    rw [mem_next fb]
    constructor
    · rintro ⟨x, hx, r, hr, e⟩
      obtain ⟨p, hp, h⟩ := (ex_first fb j s x).mp hx
      exact ⟨p, hp, (mem_next fb).mpr ⟨x, h, r, hr, e⟩⟩
    · rintro ⟨p, hp, h⟩
      obtain ⟨x, hx, r, hr, e⟩ := (mem_next fb).mp h
      exact ⟨x, (ex_first fb j s x).mpr ⟨p, hp, hx⟩, r, hr, e⟩
theorem fork_iff {b : Book} {s : Nat} : s ∈ forksM b ↔ s < b.length ∧ 1 < (mvs b s).length := by
  unfold forksM
  rw [mem_filt, decide_eq_true_eq]
theorem chain_ex {b : Book} (fb : FormB b) : ∀ (j s : Nat), s < b.length → (∃ f ∈ exL b s j, f ∈ forksM b) → ∃ i f, i ≤ j ∧ f ∈ forksM b ∧ Chain b s i f
  | 0, s, _, ⟨f, hf, h⟩ => by
    rw [List.mem_singleton.mp hf] at h
    exact ⟨0, s, Nat.le_refl _, h, .zero⟩
  | j + 1, s, hs, ⟨f, hf, h⟩ => by
    by_cases hk : s ∈ forksM b
    · exact ⟨0, s, Nat.zero_le _, hk, .zero⟩
    · have h1 : ¬ 1 < (mvs b s).length := fun z => hk (fork_iff.mpr ⟨hs, z⟩)
      obtain ⟨p, hp, hf⟩ := (ex_first fb j s f).mp hf
      have e : mvs b s = [p] := by
        match hm : mvs b s, hp, h1 with
        | [x], hp, _ => rw [List.mem_singleton.mp hp]
        | x :: y :: r, _, h1 => exact absurd (by simp) h1
      obtain ⟨i, g, hi, hg, hc⟩ := chain_ex fb j p.2 (fb.to hp) ⟨f, hf, h⟩
      exact ⟨i + 1, g, by omega, hg, .step e hc⟩
theorem rch_rt {b : Book} {s : Nat} (h : Rch b s) : Rt b 0 s := by
  induction h with
  | zero => exact .refl 0
  | step _ hp ih => exact ih.step hp
theorem chain_fork {b : Book} (ok : OkB b) (h : forksM b ≠ []) : ∃ j f, j ≤ 7 ∧ f ∈ forksM b ∧ Chain b 0 j f := by
  have fb := ok.toFormB
  have h8 := fb.eight
  obtain ⟨f, hf⟩ := List.exists_mem_of_ne_nil _ h
  have hr := rt_wi fb fb.one (rch_rt (ok.reach f (forks_lt hf)))
  obtain ⟨j, hj, he⟩ := (wi_ex fb fb.one _ _).mp hr
  obtain ⟨i, g, hi, hg, hc⟩ := chain_ex fb j 0 fb.one ⟨f, he, hf⟩
  exact ⟨i, g, by omega, hg, hc⟩
def walkF (b : Book) : Nat → Nat → Nat
  | 0, s => s
  | n + 1, s => match mvs b s with
    | [p] => walkF b n p.2
    | _ => s
def firstF (b : Book) : Nat := walkF b 8 0
theorem chain_walk {b : Book} {s j f : Nat} (h : Chain b s j f) (hf : f ∈ forksM b) : ∀ n, j ≤ n → walkF b n s = f := by
  induction h with
  | @zero s =>
    intro n _
    have h2 := (fork_iff.mp hf).2
    cases n with
    | zero => rfl
    | succ n =>
      show (match mvs b s with | [p] => walkF b n p.2 | _ => s) = s
      match hm : mvs b s, h2 with
      | [x], h2 => simp at h2
      | [], h2 => rfl
      | x :: y :: r, _ => rfl
  | @step s j f p e _ ih =>
    intro n hn
    obtain ⟨n, rfl⟩ : ∃ m, n = m + 1 := ⟨n - 1, by omega⟩
    show (match mvs b s with | [p] => walkF b n p.2 | _ => s) = f
    rw [e]
    exact ih hf n (by omega)
theorem chain_first {b : Book} (ok : OkB b) (h : forksM b ≠ []) : ∃ j, j ≤ 7 ∧ firstF b ∈ forksM b ∧ Chain b 0 j (firstF b) := by
  obtain ⟨j, f, hj, hf, hc⟩ := chain_fork ok h
  have : firstF b = f := chain_walk hc hf 8 (by omega)
  rw [this]
  exact ⟨j, hj, hf, hc⟩
/-- the least number without answers -/
def countL (b : Book) : List Nat := (mvs b (firstF b)).map fun p => cM b 9 p.2
def freeM (b : Book) : Option Nat := if ringForksM b = [] then some (if 2 < (countL b).sum ∨ 2 ∈ countL b then 3 else 2) else none
def leastN (b : Book) : Option Nat := if mvs b 0 = [] then some 0 else if forksM b = [] then some 1 else freeM b
theorem most_two {l : List Nat} (h : ¬ 2 < l.sum) {m : Nat} (hm : m ∈ l) (hmax : ∀ y ∈ l, y ≤ m) : 1 < m ↔ 2 ∈ l := by
  have le : ∀ {l : List Nat} {x : Nat}, x ∈ l → x ≤ l.sum := by
    intro l x hx
    induction l with
    | nil => cases hx
    | cons y r ih =>
      rw [List.sum_cons]
      rcases List.mem_cons.mp hx with rfl | hx
      · omega
      · have := ih hx
        omega
  constructor
  · intro h1
    have := le hm
    have : m = 2 := by omega
    rw [← this]
    exact hm
  · intro h2
    have := hmax 2 h2
    omega
/-- the messages back, the law's -/
def backL (b : Book) (s : Nat) : List Nat := ((mvs b s).filter fun p => decide (s ∈ endsL b p.2 8)).map (·.1)
theorem back_ring {b : Book} (fb : FormB b) (s : Nat) : decide (backL b s = []) = !ringB b s := by
  have h : (backL b s).length = backM b s := by unfold backL backM; rw [List.length_map]
  have h2 := back_ways fb s
  unfold ringB
  by_cases e : backL b s = []
  · rw [decide_eq_true e]
    rw [e] at h
    have : waysM b s = 0 := by rw [← h2, ← h]; rfl
    rw [this]
    rfl
  · rw [decide_eq_false e]
    have := List.length_pos_iff.mpr e
    rw [decide_eq_true (by omega)]
    rfl
theorem mem_rings {b : Book} {s : Nat} (hs : s < b.length) : decide (s ∈ ringsM b) = ringB b s := by
  unfold ringB ringsM
  refine decide_eq_decide.mpr ?_
  rw [mem_filt, decide_eq_true_eq]
  exact ⟨fun h => h.2, fun h => ⟨hs, h⟩⟩
theorem rings_law {b : Book} (fb : FormB b) : (List.range b.length).filter (fun s => ringB b s && decide (1 < (mvs b s).length)) = ringForksM b := by
  unfold ringForksM forksM
  rw [List.filter_filter]
  refine List.filter_congr fun s hs => ?_
  rw [mem_rings (List.mem_range.mp hs)]
/-- a turn of the law's count -/
theorem c_turn (b : Book) (r s : Nat) : cM b (r + 1) s = if ringB b s = true then 1 else ((mvs b s).map fun p => cM b r p.2).sum := rfl
end Nv
set_option Elab.async false
set_option linter.all false
set_option maxRecDepth 100000
namespace Nv
open PySem PySem.Spec PyProof.Rows L2
section
variable {P : Program} {w : World} {K : PySem.W.Frag} {mg : Str → Option Value} {base : Heap}
/-! ### forks on rings -/
theorem sc_ring_states : FnScope ["book", "state"] ["book"] (defScope s_ring_states) := ⟨rfl, rfl, rfl, by decide +kernel, rfl, by decide +kernel, by decide +kernel⟩
def sp_ring_states (K : PySem.W.Frag) : Sp := fun vs H Q _ => ∃ (v : V) (b : Book), vs = [v] ∧ BkV K H v b ∧ FormB b ∧ ∀ (t : Addr) (H' : Hp), H' t = some (.lst ((ringsM b).map nV)) → Ext [] H H' → Q (.ref t) H'
theorem ok_ring_states (T : Tx K mg) : FnOk P w K mg base CX0 3 T.ring_states.f T.ring_states.fd ["book"] (sp_ring_states K) := by
  refine T.ring_states.F.ok sc_ring_states (fun vs H Q E h => ?_) (fun cdv A outer s H vs Q E hr h => ?_)
  · obtain ⟨v, b, rfl, _⟩ := h; rfl
  · obtain ⟨v, b, rfl, hb, fb, q⟩ := h
    obtain ⟨a, ls, rfl, ha, hls⟩ := id hb
    have llen := Paired.len hls
    have h8 := fb.eight
    refine ⟨_, (pss_one (ps_ret (pe_lc (own := [("state", 1)]) rfl sc_ring_states.nd (pi_range1 (by rfl) T.n_range (pa_cons (pe_callB call_len_seq (by rfl) T.n_len PySem.boot_len (pa_cons (pv 0) pa_nil)) pa_nil)) (blkOk_by (own := [("state", 1)]) (N := ["book", "state"]) (sc := defScope s_ring_states) (by decide +kernel)) (fun _ _ _ _ _ => (pg_name (i := 1) sc_ring_states.nd rfl (.inl rfl))) (fun _ _ _ _ _ => pts_one (pt_mid (pt_cmpR op_gt (pe_call (ok_ways_back T) (hr.mono (by decide)) (by rfl) T.ways_back.g T.ways_back.F.kp T.ways_back.b .nil pass0 (pa_cons (pv 0) (pa_cons (pv 1) pa_nil))) pe_int (nomark _)))) (fun _ _ _ _ _ => (pv 1))))), ?_⟩
    refine ⟨_, rfl, a, _, rfl, .inr ha, _, rfl, by omega, by omega, fun D hD => ?_⟩
    rw [forTo llen]
    refine filt_range (fun s => decide (0 < waysM b s)) hD (by omega) (fun v => rfl) (fun v => rfl) (fun k H' hk e => ?_) (fun H' h e => q D H' h e)
    refine ⟨_, rfl, _, rfl, .ref a, b, k, rfl, hb.ext0 e, fb, hk, fun H3 e3 => ⟨_, _, rfl, rfl, _, rfl, ?_, e3⟩⟩
    refine decide_eq_decide.mpr ?_
    omega
theorem sc_forks_on_rings : FnScope ["book", "ring", "state"] ["book"] (defScope s_forks_on_rings) := ⟨rfl, rfl, rfl, by decide +kernel, rfl, by decide +kernel, by decide +kernel⟩
def sp_forks_on_rings (K : PySem.W.Frag) : Sp := fun vs H Q _ => ∃ (v : V) (b : Book), vs = [v] ∧ BkV K H v b ∧ FormB b ∧ ∀ (t : Addr) (H' : Hp), SqT K H' t ((ringForksM b).map nV) → Ext [] H H' → Q (.ref t) H'
theorem ok_forks_on_rings (T : Tx K mg) : FnOk P w K mg base CX0 4 T.forks_on_rings.f T.forks_on_rings.fd ["book"] (sp_forks_on_rings K) := by
  refine T.forks_on_rings.F.ok sc_forks_on_rings (fun vs H Q E h => ?_) (fun cdv A outer s H vs Q E hr h => ?_)
  · obtain ⟨v, b, rfl, _⟩ := h; rfl
  · obtain ⟨v, b, rfl, hb, fb, q⟩ := h
    have h8 := fb.eight
    refine ⟨_, (pss_cons (ps_set (i := 1) sc_forks_on_rings.nd rfl (.inr rfl) (pe_call (ok_ring_states T) (hr.mono (by decide)) (by rfl) T.ring_states.g T.ring_states.F.kp T.ring_states.b .nil pass0 (pa_cons (pv 0) pa_nil)))
      (pss_one (ps_ret (pe_callTy call_tupZ (by rfl) T.n_tuple (by decide +kernel) (pa_cons (pe_lc (own := [("state", 2)]) rfl sc_forks_on_rings.nd (pi_tup (pe_call (ok_fork_states T) (hr.mono (by decide)) (by rfl) T.fork_states.g T.fork_states.F.kp T.fork_states.b .nil pass0 (pa_cons (pv 0) pa_nil))) (blkOk_by (own := [("state", 2)]) (N := ["book", "ring", "state"]) (sc := defScope s_forks_on_rings) (by decide +kernel)) (fun _ _ _ _ _ => (pg_name (i := 2) sc_forks_on_rings.nd rfl (.inl rfl))) (fun _ _ _ _ _ => pts_one (pt_mid (pt_cmpR (op_in_seqK K) (pv 2) (pv 1) (by rfl)))) (fun _ _ _ _ _ => (pv 2))) pa_nil))))), ?_⟩
    refine ⟨_, rfl, v, b, rfl, hb, fb, fun r H1 hR e1 => ?_⟩
    refine ⟨_, rfl, v, b, rfl, hb.ext0 e1, h8, fun t H2 ht e2 => ?_⟩
    refine ⟨t, rfl, ⟨_, ht⟩, fun D hD => ?_⟩
    have fl : (forksM b).length ≤ b.length := by
      unfold forksM
      refine Nat.le_trans (List.length_filter_le _ _) ?_
      rw [List.length_range]
      exact Nat.le_refl _
    refine filt_tup (K := K) (a := t) (l := forksM b) (fun k => decide (k ∈ ringsM b)) hD ht (by omega) (fun v => rfl) (fun v => rfl) (fun k H' hk e => ?_) (fun H' h e => ?_)
    · exact ⟨_, rfl, _, rfl, r, _, rfl, .inl (.of (e.at (e2.at hR (by simp)) (by simp))), rfl, flat_nV _, _, rfl, inV_nV _ _, .refl⟩
    · refine ⟨D, _, rfl, .of h, fun t2 H3 ht2 hH => ?_⟩
      obtain ⟨o, _, rfl⟩ := hH
      exact q t2 _ (.inl (.inr ⟨o, upd_same⟩)) (((e1.trans e2).trans e).put2 ht2)
end
end Nv
set_option Elab.async false
set_option linter.all false
set_option maxRecDepth 100000
namespace Nv
open PySem PySem.Spec PyProof.Rows L2
section
variable {P : Program} {w : World} {K : PySem.W.Frag} {mg : Str → Option Value} {base : Heap}
/-! ### what stays where lambdas are made -/
theorem Ext.tabs {L : List Addr} {H H' : Hp} {P : Addr} {q : Str} (e : Ext L H H') (hL : ∀ x ∈ L, ∀ o, H x = some o → (∃ xs, o = .lst xs)) (t : LamX.Tabs [(P, q)] H) : LamX.Tabs [(P, q)] H' := fun z hz => by
  rw [List.mem_singleton.mp hz]
  obtain ⟨ps, h1, h2, h3⟩ := t (P, q) (List.mem_singleton.mpr rfl)
  refine ⟨ps, e _ _ (fun z => ?_) h1, h2, fun pos cv hc => ?_⟩
  · obtain ⟨xs, e⟩ := hL _ z _ h1
    cases e
  · obtain ⟨c, e1, e2⟩ := h3 pos cv hc
    refine ⟨c, e1, e _ _ (fun z => ?_) e2⟩
    obtain ⟨xs, e⟩ := hL _ z _ e2
    cases e
theorem PoolAt.only {H : Hp} {p l : Addr} (h : PoolAt H p l) : ∀ x ∈ [p, l], ∀ o, H x = some o → (∃ xs, o = .lst xs) := by
  obtain ⟨_, x, y, ls, h1, h2, _⟩ := h
  intro z hz o ho
  rcases List.mem_cons.mp hz with rfl | hz
  · rw [h1] at ho
    cases ho
    exact ⟨_, rfl⟩
  · rw [List.mem_singleton.mp hz, h2] at ho
    cases ho
    exact ⟨_, rfl⟩
theorem PoolAt.extN {H H' : Hp} {p l : Addr} (h : PoolAt H p l) (e : LamX.ExtN H H') : PoolAt H' p l := by
  obtain ⟨n, x, y, ls, h1, h2, r⟩ := h
  exact ⟨n, x, y, ls, e _ _ h1 (fun ps z => nomatch z), e _ _ h2 (fun ps z => nomatch z), r⟩
theorem ext_toN {H H' : Hp} (e : Ext [] H H') : LamX.ExtN H H' := .of e.toSame
theorem fd_of {name : Str} {st : Stmt} {ps : List Str} (D : DefAt K mg name st ps) {fd' : FuncData} {oc : Value} {od : Option Addr} {osl : Array (Option Value)} (lk : K.lookup D.f = some ⟨oc, od, .func fd', osl⟩) : D.fd = fd' := by
  obtain ⟨oc', od', kV, doc, pm, an, cdv, ct, osl', hfd, lk', cd'⟩ := D.F.ex
  rw [lk] at lk'
  have h := Option.some.inj lk'
  injection h with h1 h2 h3 h4
  injection h3 with h3
  exact h3.symm
theorem cutDrop (xs : List V) : cutV xs (some 1) none = xs.drop 1 := by
  unfold cutV
  cases xs with
  | nil => simp
  | cons x r => simp [HT.sIx]
theorem dpAll_drop {K : PySem.W.Frag} {H : Hp} : ∀ {vs : List V} {ds : List PyData} (n : Nat), DpAll K H vs ds → DpAll K H (vs.drop n) (ds.drop n)
  | _, _, 0, h => h
  | _, _, n + 1, .nil => .nil
  | _, _, n + 1, .cons _ t => dpAll_drop n t
end
end Nv
set_option Elab.async false
set_option linter.all false
set_option maxRecDepth 100000
namespace Nv
open PySem PySem.Spec PyProof.Rows L2
section
variable {P : Program} {w : World} {K : PySem.W.Frag} {mg : Str → Option Value} {base : Heap}
/-! ### windows and states that are none -/
def OutsV (H : Hp) (E : XK) (C : Addr) (v : V) : Prop := ∀ dx H', H dx = none → XdAt H' dx v → Ext [] H H' → E (.ref C) (some dx) H'
theorem OutsV.ext {H H' : Hp} {E : XK} {C : Addr} {v : V} (h : OutsV H E C v) (e : Ext [] H H') : OutsV H' E C v := fun dx H2 n z x => h dx H2 (e.free n) z (e.trans x)
/-- a window, or None -/
def winD : PyData → Bool
  | .none => true
  | .int i => decide (1 ≤ i)
  | _ => false
/-- a window that is a number -/
def numD : PyData → Bool
  | .int i => decide (1 ≤ i)
  | _ => false
theorem iteNon {A B : Prop} (h : B) : if (!decide (V.non = V.non)) = true then A else B := by
  rw [decide_eq_true rfl]
  exact h

def sp_made_windowA : Sp := fun vs H Q _ => ∃ v : V, vs = [v] ∧ (v = .non ∨ ∃ i : Int, v = .int i ∧ 1 ≤ i) ∧ Q v H
theorem okA_made_window (T : Tx K mg) : FnOk P w K mg base CX0 2 T.made_window.f T.made_window.fd ["thing"] sp_made_windowA := by
  refine T.made_window.F.ok sc_made_window (fun vs H Q E h => ?_) (fun cdv A outer s H vs Q E hr h => ?_)
  · obtain ⟨W, rfl, _⟩ := h; rfl
  · obtain ⟨v, rfl, hv, q⟩ := h
    refine ⟨_, (pss_cons (ps_if (PW.pt (pw_and (pt_cmpR op_notN (pv 0) pe_non (nomark _)) (pw_and1 (PW.pt (pw_or (pt_not (pt_val (pe_call (ok_whole T) (hr.mono (by decide)) (by rfl) T.whole.g T.whole.F.kp T.whole.b .nil pass0 (pa_cons (pv 0) pa_nil)))) (pw_or1 (pt_cmpR op_lt (pv 0) pe_int (nomark _))))))))
        (pss_one ps_never)
        pss_nil)
      (pss_one (ps_ret (pv 0)))), ?_⟩
    rcases hv with rfl | ⟨i, rfl, hW⟩
    · exact ⟨_, rfl, rfl, _, rfl, iteNon (iteF ⟨_, rfl, q⟩)⟩
    · refine ⟨_, rfl, rfl, _, rfl, iteNS' (by intro z; cases z) ?_⟩
      refine ⟨_, rfl, _, rfl, _, rfl, notF rfl ⟨_, rfl, _, _, rfl, rfl, _, rfl, ?_⟩⟩
      rw [decide_eq_false (by omega)]
      exact iteF ⟨_, rfl, q⟩
def sp_made_windowX (K : PySem.W.Frag) (C : Addr) : Sp := fun vs H Q E => ∃ (v : V) (d : PyData), vs = [v] ∧ Dp K H v d ∧ (winD d = true → Q v H) ∧ (winD d = false → OutsV H E C (.int 0))
theorem okX_made_window (T : Tx K mg) : FnOk P w K mg base (L2.CX P w) 3 T.made_window.f T.made_window.fd ["thing"] (sp_made_windowX K T.x_BadWindow.C) := by
  refine T.made_window.F.okX sc_made_window (fun vs H Q E h => ?_) (fun cdv A outer s H vs Q E hr h => ?_)
  · obtain ⟨v, d, rfl, _⟩ := h; rfl
  · obtain ⟨v, d, rfl, hd, q, qe⟩ := h
    refine ⟨_, (pss_cons (ps_if (PW.pt (pw_and (pt_cmpR op_notN (pv 0) pe_non (nomark _)) (pw_and1 (PW.pt (pw_or (pt_not (pt_val (pe_call (okD_whole T) (hr.mono (by decide)) (by rfl) T.whole.g T.whole.F.kp T.whole.b .nil pass0 (pa_cons (pv 0) pa_nil)))) (pw_or1 (pt_cmpR op_lt (pv 0) pe_int (nomark _))))))))
        (pss_one (ps_raise rfl (takes_of rfl rfl rfl rfl) (pmk_X T.x_BadWindow T.init.ti (ok_init T) (hr.mono (by decide)) T.init.b (by rfl) pe_int)))
        pss_nil)
      (PSs.nox (pss_one (ps_ret (pv 0))))), ?_⟩
    have rs : winD d = false → ∀ dx, H dx = none → E (.ref T.x_BadWindow.C) (some dx) (upd H dx (xdW "BadWindow" (.int 0))) := fun h dx nd => qe h dx _ nd ⟨_, upd_same⟩ (.new nd)
    cases hd with
    | non => exact ⟨_, rfl, rfl, _, rfl, iteNon (iteF ⟨_, rfl, q rfl⟩)⟩
    | int i =>
      refine ⟨_, rfl, rfl, _, rfl, iteNS' (by intro z; cases z) ?_⟩
      refine ⟨_, rfl, _, .int i, rfl, .int i, _, rfl, notF rfl ⟨_, rfl, _, _, rfl, rfl, _, rfl, ?_⟩⟩
      by_cases h : i < 1
      · rw [decide_eq_true h]
        exact iteT (rs (decide_eq_false (by omega)))
      · rw [decide_eq_false h]
        exact iteF ⟨_, rfl, q (decide_eq_true (by omega))⟩
    | bl b => exact ⟨_, rfl, rfl, _, rfl, iteNS' (by intro z; cases z) ⟨_, rfl, _, .bool b, rfl, .bl b, _, rfl, iteT (rs rfl)⟩⟩
    | str x => exact ⟨_, rfl, rfl, _, rfl, iteNS' (by intro z; cases z) ⟨_, rfl, _, .str x, rfl, .str x, _, rfl, iteT (rs rfl)⟩⟩
    | lst h1 h2 => exact ⟨_, rfl, rfl, _, rfl, iteNS' (by intro z; cases z) ⟨_, rfl, _, _, rfl, .lst h1 h2, _, rfl, iteT (rs rfl)⟩⟩
    | tup h1 h2 => exact ⟨_, rfl, rfl, _, rfl, iteNS' (by intro z; cases z) ⟨_, rfl, _, _, rfl, .tup h1 h2, _, rfl, iteT (rs rfl)⟩⟩
end
end Nv
set_option Elab.async false
set_option linter.all false
set_option maxRecDepth 100000
namespace Nv
open PySem PySem.Spec PyProof.Rows L2
section
variable {P : Program} {w : World} {K : PySem.W.Frag} {mg : Str → Option Value} {base : Heap}
/-! ### the law's own messages back, as numbers -/
def LmV (H : Hp) (v : V) (l : List Nat) : Prop := ∃ a : Addr, v = .ref a ∧ H a = some (.lst (l.map nV))
theorem LmV.ext0 {H H' : Hp} {v : V} {l : List Nat} (h : LmV H v l) (e : Ext [] H H') : LmV H' v l := by
  obtain ⟨a, rfl, h1⟩ := h
  exact ⟨a, rfl, e.at h1 (by simp)⟩

def sp_law_win_backS (K : PySem.W.Frag) : Sp := fun vs H Q _ => ∃ (v : V) (b : Book), vs = [v] ∧ BkV K H v b ∧ FormB b ∧ ∀ (t : Addr) (xs : List V) (H' : Hp), H' t = some (.lst xs) → Paired (LmV H') xs ((List.range b.length).map (backL b)) → Ext [] H H' → Q (.ref t) H'
theorem okS_law_win_back (T : Tx K mg) : FnOk P w K mg base CX0 2 T.law_win_back.f T.law_win_back.fd ["book"] (sp_law_win_backS K) := by
  refine T.law_win_back.F.ok sc_law_win_back (fun vs H Q E h => ?_) (fun cdv A outer s H vs Q E hr h => ?_)
  · obtain ⟨v, b, rfl, _⟩ := h; rfl
  · obtain ⟨v, b, rfl, hb, fb, q⟩ := h
    obtain ⟨a, ls, rfl, ha, hls⟩ := id hb
    have llen := Paired.len hls
    have h8 := fb.eight
    refine ⟨_, (pss_cons (ps_set (i := 1) sc_law_win_back.nd rfl (.inl rfl) (pe_lst pa_nil))
      (pss_cons (ps_for PassesOwn.never rfl (pi_enumT (by rfl) T.n_enumerate (pa_cons (pv 0) pa_nil)) (pg_tup rfl (pgs_cons (pg_name (i := 2) sc_law_win_back.nd rfl (.inr rfl)) (pgs_cons (pg_name (i := 3) sc_law_win_back.nd rfl (.inl rfl)) pgs_nil)))
        (pss_one (ps_expr (pe_bm PySem.F.plainAttrs_list PySem.F.slot_list_append PySem.F.type_list_append mt_append (pv 1) (pa_cons (pe_lc (own := [("message", 4), ("to", 5)]) rfl sc_law_win_back.nd (pi_tup (pv 3)) (blkOk_by (own := [("message", 4), ("to", 5)]) (N := ["book", "found", "state", "moves", "message", "to"]) (sc := defScope s_law_win_back) (by decide +kernel)) (fun _ _ _ _ _ => (pg_tupK (n := 2) K rfl (pgs_cons (pg_name (i := 4) sc_law_win_back.nd rfl (.inl rfl)) (pgs_cons (pg_name (i := 5) sc_law_win_back.nd rfl (.inl rfl)) pgs_nil)))) (fun _ _ _ _ _ => pts_one (pt_mid (pt_cmpR (op_in_seqK K) (pv 2) (pe_call (ok_law_win_ends T) (hr.mono (by decide)) (by rfl) T.law_win_ends.g T.law_win_ends.F.kp T.law_win_ends.b .nil pass0 (pa_cons (pv 0) (pa_cons (pv 5) (pa_cons pe_int pa_nil)))) (by rfl)))) (fun _ _ _ _ _ => (pv 4))) pa_nil)))))
      (pss_one (ps_ret (pv 1))))), ?_⟩
    refine ⟨Nat.zero_le _, fun f hf => ?_⟩
    have e0 : Ext [] H (upd H f (.lst [])) := .new hf
    refine ⟨_, rfl, a, _, rfl, e0.tup Lsts.nil ha, ?_⟩
    refine for_it (walk_enumT (K := K) (a := a) (xs := ls)) (fun i σ H' => ∃ (xs : List V) (y2 y3 : Option V), σ = [some (.ref a), some (.ref f), y2, y3, none, none] ∧ H' f = some (.lst xs) ∧ Paired (fun v l => LmV H' v l ∧ v ≠ .ref f) xs (((List.range b.length).take i).map (backL b)) ∧ Ext [] H H') ⟨[], _, _, rfl, upd_same, by simp; exact .nil, e0⟩ (fun i σ H' _ ⟨_, _, _, _, _, _, e⟩ => e.tup Lsts.nil ha) ?_ ?_
    · rintro i v σ H1 H' hi ⟨xs, y2, y3, rfl, hF, hp, e1⟩ ⟨T', x, y, rfl, hT, rfl, hx, hy⟩
      cases hx
      have hib : i < b.length := by omega
      have e2 := e1.put2 (o := .tup [.int i, y]) hT
      have hF2 : upd H1 T' (.tup [.int i, y]) f = some (.lst xs) := by rw [upd_ne (ne_of_none hF hT)]; exact hF
      obtain ⟨u, hu, c, ps, rfl, hc, hps⟩ := Paired.get hls (mvs_lt hib)
      have hy : ls[i]? = some y := hy
      rw [hu] at hy
      have hy := Option.some.inj hy
      subst hy
      have plen := Paired.len hps
      have five := (fb.ok hib).few
      have e12 : Ext [] H1 (upd H1 T' (.tup [.int i, .ref c])) := .new hT
      refine ⟨T', _, rfl, .of upd_same, rfl, _, _, rfl, _, _, rfl, rfl, ?_⟩
      generalize upd H1 T' (.tup [.int i, .ref c]) = H2 at *
      refine ⟨_, rfl, .inl ⟨rfl, _, .of hF2⟩, ?_⟩
      refine ⟨_, rfl, c, rfl, ⟨_, (e2.tz Lsts.nil hc).sq⟩, fun D hD => ?_⟩
      refine lc_tup (K := K) (a := c) (xs := ps.map V.ref) (fun j H' => H' D = some (.lst (((((mvs b i).take j).filter fun p => decide (i ∈ endsL b p.2 8)).map (·.1)).map nV)) ∧ Ext [] H2 H') ⟨upd_same, .new hD⟩ (fun j H' _ ⟨_, e⟩ => ((e2.trans e).tz Lsts.nil hc).sq) ?_ ?_
      · rintro j v H' hv ⟨hY, e3⟩
        obtain ⟨g, hg, rfl⟩ := map_at hv
        obtain ⟨p, hp, hcp⟩ := Paired.get' hps hg
        have hm := List.mem_of_getElem? hp
        have e4 := e2.trans e3
        refine ⟨g, _, rfl, hcp.ext0 e4, rfl, _, _, rfl, _, _, rfl, rfl, rfl, ?_⟩
        refine ⟨fun x H3 => x = decide (i ∈ endsL b p.2 8) ∧ Ext [] H' H3, ?_, ?_⟩
        · refine ⟨_, rfl, _, rfl, _, rfl, .ref a, b, p.2, 8, rfl, hb.ext0 e4, fb, fb.to hm, fun t H3 ht e5 _ => ?_⟩
          exact ⟨t, _, rfl, .inl (.of ht), rfl, flat_nV _, _, rfl, inV_nV i _, e5⟩
        · rintro x H3 ⟨rfl, e5⟩
          have h3 := e5.at hY (by simp)
          refine ifB (fun hf => ?_) (fun hf => ?_)
          · refine ⟨_, rfl, _, h3, ?_, ?_, (e3.trans e5).put hD⟩
            · rw [List.length_map, List.length_map]
              refine small1000 (Nat.le_trans (List.length_filter_le _ _) ?_)
              rw [List.length_take]
              omega
            · rw [upd_same, filter_take _ hp, hf]
              simp
          · refine ⟨?_, e3.trans e5⟩
            rw [h3, filter_take _ hp, hf]
            simp
      · rintro H' ⟨hY, e3⟩
        rw [List.length_map, plen, List.take_length] at hY
        have hY : H' D = some (.lst ((backL b i).map nV)) := hY
        have hF3 := e3.at hF2 (by simp)
        have hp3 : Paired (fun v l => LmV H' v l ∧ v ≠ .ref f) xs (((List.range b.length).take i).map (backL b)) := Paired.imp hp fun _ _ z => ⟨z.1.ext0 (e12.trans e3), z.2⟩
        refine ⟨f, _, _, rfl, rfl, hF3, ?_, xs ++ [.ref D], _, _, rfl, upd_same, ?_, (e2.trans e3).put hf⟩
        · rw [Paired.len hp, List.length_map, List.length_take, List.length_range]
          exact small1000 (by omega)
        · have fD : f ≠ D := ne_of_none hF2 hD
          rw [List.take_add_one, List.getElem?_range hib, List.map_append]
          refine Paired.snoc ⟨⟨D, rfl, by rw [upd_ne fD.symm]; exact hY⟩, fun z => fD (V.ref.inj z).symm⟩ (Paired.imp hp3 fun v n z => ⟨?_, z.2⟩)
          obtain ⟨⟨g, rfl, h1⟩, h3⟩ := z
          exact ⟨g, rfl, by rw [upd_ne (fun y => h3 (by rw [y]))]; exact h1⟩
    · rintro σ H' ⟨xs, y2, y3, rfl, hF, hp, e⟩
      refine ⟨_, rfl, q f xs H' hF ?_ e⟩
      rw [llen, List.take_of_length_le (by rw [List.length_range]; exact Nat.le_refl _)] at hp
      exact Paired.imp hp fun _ _ z => z.1
theorem back_get {b : Book} {H : Hp} {xs : List V} (h : Paired (LmV H) xs ((List.range b.length).map (backL b))) {i : Nat} (hi : i < b.length) : ∃ a : Addr, xs[i]? = some (.ref a) ∧ H a = some (.lst ((backL b i).map nV)) := by
  obtain ⟨v, hv, a, rfl, ha⟩ := Paired.get h (i := i) (b := backL b i) (by rw [List.getElem?_map, List.getElem?_range hi]; rfl)
  exact ⟨a, hv, ha⟩
theorem sc_law_win_ring_forks : FnScope ["book", "state", "back"] ["book"] (defScope s_law_win_ring_forks) := ⟨rfl, rfl, rfl, by decide +kernel, rfl, by decide +kernel, by decide +kernel⟩
def sp_law_win_ring_forks (K : PySem.W.Frag) : Sp := fun vs H Q _ => ∃ (v : V) (b : Book), vs = [v] ∧ BkV K H v b ∧ FormB b ∧ ∀ (t : Addr) (H' : Hp), H' t = some (.lst ((ringForksM b).map nV)) → Ext [] H H' → Q (.ref t) H'
theorem ok_law_win_ring_forks (T : Tx K mg) : FnOk P w K mg base CX0 3 T.law_win_ring_forks.f T.law_win_ring_forks.fd ["book"] (sp_law_win_ring_forks K) := by
  refine T.law_win_ring_forks.F.ok sc_law_win_ring_forks (fun vs H Q E h => ?_) (fun cdv A outer s H vs Q E hr h => ?_)
  · obtain ⟨v, b, rfl, _⟩ := h; rfl
  · obtain ⟨v, b, rfl, hb, fb, q⟩ := h
    obtain ⟨a, ls, rfl, ha, hls⟩ := id hb
    have llen := Paired.len hls
    have h8 := fb.eight
    refine ⟨_, (pss_one (ps_ret (pe_lc (own := [("state", 1), ("back", 2)]) rfl sc_law_win_ring_forks.nd (pi_enum (by rfl) T.n_enumerate (pa_cons (pe_call (okS_law_win_back T) (hr.mono (by decide)) (by rfl) T.law_win_back.g T.law_win_back.F.kp T.law_win_back.b .nil pass0 (pa_cons (pv 0) pa_nil)) pa_nil)) (blkOk_by (own := [("state", 1), ("back", 2)]) (N := ["book", "state", "back"]) (sc := defScope s_law_win_ring_forks) (by decide +kernel)) (fun _ _ _ _ _ => (pg_tupK (n := 2) K rfl (pgs_cons (pg_name (i := 1) sc_law_win_ring_forks.nd rfl (.inl rfl)) (pgs_cons (pg_name (i := 2) sc_law_win_ring_forks.nd rfl (.inl rfl)) pgs_nil)))) (fun _ _ _ _ _ => pts_one (pt_mid (PW.pt (pw_and (pt_cmpR (op_neDK K hr.units) (pv 2) (pe_lst pa_nil) (nomark _)) (pw_and1 (pt_cmpR op_gt (pe_callB (call_len_seqK K) (by rfl) T.n_len PySem.boot_len (pa_cons (pe_ix (ix_tupK K) (pv 0) (pv 1) (fun _ _ => rfl)) pa_nil)) pe_int (nomark _))))))) (fun _ _ _ _ _ => (pv 1))))), ?_⟩
    refine ⟨_, rfl, .ref a, b, rfl, hb, fb, fun t xs H1 ht hp e1 => ?_⟩
    have xl : xs.length = b.length := by rw [Paired.len hp, List.length_map, List.length_range]
    refine ⟨t, _, rfl, .inl (.of ht), fun D hD => ?_⟩
    refine lc_it (walk_enum (K := K) (a := t) (xs := xs)) (fun i H' => H' D = some (.lst ((((List.range b.length).take i).filter fun s => ringB b s && decide (1 < (mvs b s).length)).map nV)) ∧ Ext [] H1 H') ⟨upd_same, .new hD⟩ (fun i H' _ ⟨_, e⟩ => .of (e.at ht (by simp))) ?_ ?_
    · rintro i v H2 H' hi ⟨hD2, e2⟩ ⟨T', x, y, rfl, hT, rfl, hx, hy⟩
      cases hx
      have hib : i < b.length := by omega
      have hy : xs[i]? = some y := hy
      obtain ⟨g, hg, hga⟩ := back_get hp hib
      rw [hg] at hy
      have hy := Option.some.inj hy
      subst hy
      have hri : (List.range b.length)[i]? = some i := List.getElem?_range hib
      have e3 := e2.put2 (o := .tup [.int i, .ref g]) hT
      have hD3 : upd H2 T' (.tup [.int i, .ref g]) D = _ := (upd_ne (ne_of_none hD2 hT)).trans hD2
      refine ⟨T', _, rfl, .of upd_same, rfl, _, _, rfl, _, _, rfl, rfl, rfl, ?_⟩
      generalize upd H2 T' (.tup [.int i, .ref g]) = H3 at *
      refine ⟨fun x H4 => x = (ringB b i && decide (1 < (mvs b i).length)) ∧ Ext [] H3 H4, ?_, ?_⟩
      · refine ⟨_, rfl, Nat.zero_le _, fun z hz => ?_⟩
        have x0 : Ext [] H3 (upd H3 z (.lst [])) := .new hz
        have hg0 := (e3.trans x0).at hga (by simp)
        rw [map_nV_int] at hg0
        refine ⟨_, _, .lst (.of hg0) (dp_ints _), .lst (.of upd_same) .nil, shaped_ints _, by decide, _, rfl, ?_⟩
        have eb : decide ((backL b i).map (fun n : Nat => (n : Int)) = []) = decide (backL b i = []) := decide_eq_decide.mpr List.map_eq_nil_iff
        rw [eqv_nil, eb, back_ring fb i, Bool.not_not]
        cases hrg : ringB b i with
        | false => exact iteF ⟨rfl, x0⟩
        | true =>
          obtain ⟨u, hu, c, ps, rfl, hc, hps⟩ := Paired.get hls (mvs_lt hib)
          have x3 := e1.trans (e3.trans x0)
          refine iteT ⟨_, rfl, _, rfl, a, _, _, _, rfl, rfl, x3.tup Lsts.nil ha, atI_nat hu, c, _, rfl, .inr (x3.tz Lsts.nil hc).sq, _, _, rfl, rfl, _, rfl, ?_, x0⟩
          rw [List.length_map, Paired.len hps, Bool.true_and]
          exact decide_eq_decide.mpr (by omega)
      · rintro x H4 ⟨rfl, e4⟩
        have hD4 := e4.at hD3 (by simp)
        refine ifB (fun hf => ?_) (fun hf => ?_)
        · refine ⟨_, rfl, _, hD4, ?_, ?_, (e3.trans e4).put hD⟩
          · rw [List.length_map]
            refine small1000 (Nat.le_trans (List.length_filter_le _ _) ?_)
            rw [List.length_take]
            omega
          · rw [upd_same, filter_take _ hri, hf]
            simp
        · refine ⟨?_, e3.trans e4⟩
          rw [hD4, filter_take _ hri, hf]
          simp
    · rintro H' ⟨hD2, e2⟩
      rw [xl, List.take_of_length_le (by rw [List.length_range]; exact Nat.le_refl _), rings_law fb] at hD2
      exact q D H' hD2 (e1.trans e2)
end
end Nv
set_option Elab.async false
set_option linter.all false
set_option maxRecDepth 100000
namespace Nv
open PySem PySem.Spec PyProof.Rows L2
section
variable {P : Program} {w : World} {K : PySem.W.Frag} {mg : Str → Option Value} {base : Heap}
/-! ### the law's own count of rays -/
theorem mut_dk {kvs : List (Key × V)} : Mut (some (HO.dK kvs)) := trivial
theorem mergeOne (k : Nat) (v : V) : mergeK [] [(kN k, v)] = [(kN k, v)] := rfl
theorem getN_at {l : List (Nat × Nat)} (nd : (l.map (·.1)).Nodup) {i : Nat} {q : Nat × Nat} (h : l[i]? = some q) : valV (kvN l) (kN q.1) = some (nV q.2) := by
  rw [val_kvN, get_at nd h]
  rfl
theorem sc_law_win_rays : FnScope ["book", "first", "back", "found", "level", "turn", "ahead", "state", "message", "to"] ["book", "first"] (defScope s_law_win_rays) := ⟨rfl, rfl, rfl, by decide +kernel, rfl, by decide +kernel, by decide +kernel⟩
def sp_law_win_rays (K : PySem.W.Frag) : Sp := fun vs H Q _ => ∃ (v : V) (b : Book) (s : Nat), vs = [v, .int s] ∧ BkV K H v b ∧ FormB b ∧ s < b.length ∧ ∀ (H' : Hp), Ext [] H H' → Q (.int (cM b 9 s : Nat)) H'
theorem ok_law_win_rays (T : Tx K mg) : FnOk P w K mg base CX0 3 T.law_win_rays.f T.law_win_rays.fd ["book", "first"] (sp_law_win_rays K) := by
  refine T.law_win_rays.F.ok sc_law_win_rays (fun vs H Q E h => ?_) (fun cdv A outer s H vs Q E hr h => ?_)
  · obtain ⟨v, b, s, rfl, _⟩ := h; rfl
  · obtain ⟨v, b, st, rfl, hb, fb, hs, q⟩ := h
    obtain ⟨a, ls, rfl, ha, hls⟩ := id hb
    have llen := Paired.len hls
    have h8 := fb.eight
    refine ⟨_, (pss_cons (ps_par3 (i := 2) (j := 3) (l := 4) rfl sc_law_win_rays.nd rfl rfl rfl (by decide) (by decide) (by decide) rfl rfl rfl (pa_cons (pe_call (okS_law_win_back T) (hr.mono (by decide)) (by rfl) T.law_win_back.g T.law_win_back.F.kp T.law_win_back.b .nil pass0 (pa_cons (pv 0) pa_nil)) (pa_cons pe_int (pa_cons (pe_disp (pps_cons (pv 1) pe_int pps_nil) (by rfl) (by rfl) (fun z => by cases z) (by decide)) pa_nil))) (by rfl))
      (pss_cons (ps_for PassesOwn.never rfl (pi_range1 (by rfl) T.n_range (pa_cons pe_int pa_nil)) (pg_name (i := 5) sc_law_win_rays.nd rfl (.inl rfl))
        (pss_cons (ps_set (i := 6) sc_law_win_rays.nd rfl (.inl rfl) pe_dnewK)
        (pss_cons (ps_lock (ps_for PassesOwn.never rfl (pi_keys (pv 4)) (pg_name (i := 7) sc_law_win_rays.nd rfl (.inl rfl))
          (pss_one (ps_if (pt_cmpR (op_neD (hr.units)) (pe_ix ix_list (pv 2) (pv 7) (fun _ _ => rfl)) (pe_lst pa_nil) (nomark _))
            (pss_one (ps_set (i := 3) sc_law_win_rays.nd rfl (.inl rfl) (pe_op op_add (pv 3) (pe_dget (hu_of hr) (pv 4) (pv 7) (fun _ _ => rfl)))))
            (pss_one (ps_for PassesOwn.never rfl (pi_tup (pe_ix ix_tup (pv 0) (pv 7) (fun _ _ => rfl))) (pg_tup rfl (pgs_cons (pg_name (i := 8) sc_law_win_rays.nd rfl (.inl rfl)) (pgs_cons (pg_name (i := 9) sc_law_win_rays.nd rfl (.inl rfl)) pgs_nil)))
              (pss_one (ps_dput (hu_of hr) (pv 6) (pv 9) (pe_op op_add (pe_dget2 (hu_of hr) (pv 6) (pv 9) pe_int ⟨rfl, rfl, rfl, rfl⟩) (pe_dget (hu_of hr) (pv 4) (pv 7) (fun _ _ => rfl))) rfl))))))))
        (pss_one (ps_set (i := 4) sc_law_win_rays.nd rfl (.inl rfl) (pv 6))))))
      (pss_one (ps_ret (pv 3))))), ?_⟩
    refine ⟨_, rfl, .ref a, b, rfl, hb, fb, fun t xs H1 ht hp e1 => ?_⟩
    refine fun d hd => ⟨_, rfl, upd_same, [(kN st, .int 1)], rfl, (by show 1 ≤ 15; decide), ?_⟩
    have e2 : Ext [] H1 (upd (upd H1 d (.dK [])) d (.dK (mergeK [] [(kN st, .int 1)]))) := (Ext.new (L := []) (o := .dK []) hd).put hd
    have hd2 : upd (upd H1 d (.dK [])) d (.dK (mergeK [] [(kN st, .int 1)])) d = some (.dK (kvN [(st, 1)])) := upd_same
    generalize upd (upd H1 d (.dK [])) d (.dK (mergeK [] [(kN st, .int 1)])) = H2 at *
    refine ⟨_, _, _, rfl, ?_⟩
    have xl : xs.length = b.length := by rw [Paired.len hp, List.length_map, List.length_range]
    have ht2 := e2.at ht (by simp)
    have hp2 : Paired (LmV H2) xs ((List.range b.length).map (backL b)) := Paired.imp hp fun _ _ z => z.ext0 e2
    have f2 := e1.trans e2
    clear hp e2 ht e1 hd
    refine ⟨9, rfl, by decide, by decide, for_range (lo := 0) (n := 9) (fun i σ H' => ∃ (lv : Addr) (l : List (Nat × Nat)) (fo : Nat) (y5 y6 y7 y8 y9 : Option V), σ = [some (.ref a), some (.int st), some (.ref t), some (.int fo), some (.ref lv), y5, y6, y7, y8, y9] ∧ H' lv = some (.dK (kvN l)) ∧ (l.map (·.1)).Nodup ∧ (∀ x ∈ l.map (·.1), x < b.length) ∧
      fo + wS l (cM b (9 - i)) = cM b 9 st ∧ Ext [] H2 H') ⟨d, [(st, 1)], 0, _, _, _, _, _, rfl, hd2, by simp, (by simpa using hs), (by simp [wS]), .refl⟩ ?_ ?_⟩
    · rintro i σ H3 hi ⟨lv, l, fo, y5, y6, y7, y8, y9, rfl, hlv, nd, llt, hsum, e3⟩
      obtain ⟨r, hr9⟩ : ∃ r, 9 - i = r + 1 := ⟨8 - i, by omega⟩
      have hr9' : 9 - (i + 1) = r := by omega
      rw [hr9] at hsum
      have l8 : l.length ≤ b.length := by
        have := nodup_le nd llt
        rwa [List.length_map] at this
      -- ahead
      refine fun ah hah => ?_
      have z0 : Ext [] H3 (upd H3 ah (.dK [])) := .new hah
      have hah0 : upd H3 ah (.dK []) ah = some (.dK (kvN [])) := upd_same
      have hlv0 := z0.at hlv (by simp)
      have f3 : Ext [] H2 (upd H3 ah (.dK [])) := e3.trans z0
      have alv : lv ≠ ah := ne_of_none hlv hah
      have ah2 : H2 ah = none := e3.free hah
      clear hah
      generalize upd H3 ah (.dK []) = H4 at *
      refine ⟨lv, _, hlv0, mut_dk, fun od => ?_⟩
      refine ⟨_, rfl, lv, od, rfl, .inl ⟨kvN l, upd_same, ?_⟩⟩
      have kl : (kvN l).length = l.length := by unfold kvN; rw [List.length_map]
      -- what stays while the level is looked at
      let Stay : Hp → Prop := fun H' => H' lv = some (.frz od (.dK (kvN l))) ∧ Ext [lv, ah] H4 H'
      have only : Lsts [lv, ah] H4 := fun x hx => by
        rcases List.mem_cons.mp hx with rfl | hx
        · exact ⟨_, hlv0, fun _ z => (nomatch z), fun _ _ z => (nomatch z)⟩
        · rw [List.mem_singleton.mp hx]
          exact ⟨_, hah0, fun _ z => (nomatch z), fun _ _ z => (nomatch z)⟩
      have f4 := f2.trans f3
      have tr : ∀ {H' : Hp} {x : Addr} {ys : List V}, Stay H' → SqT K H x ys → SqT K H' x ys := fun st h => st.2.tup only (f4.tup Lsts.nil h)
      have nl : ∀ {x : Addr} {zs : List V}, H4 x = some (.lst zs) → x ∉ [lv, ah] := fun h z => by
        rcases List.mem_cons.mp z with rfl | z
        · rw [hlv0] at h; cases h
        · rw [List.mem_singleton.mp z, hah0] at h; cases h
      have stays : ∀ {H' : Hp}, Stay H' → H' t = some (.lst xs) ∧ Paired (LmV H') xs ((List.range b.length).map (backL b)) := fun {H'} st => by
        refine ⟨st.2 _ _ (nl (f3.at ht2 (by simp))) (f3.at ht2 (by simp)), Paired.imp hp2 fun _ _ z => ?_⟩
        obtain ⟨g, rfl, hg⟩ := z.ext0 f3
        exact ⟨g, rfl, st.2 _ _ (nl hg) hg⟩
      refine for_it (walk_keys (d := lv) (o := od) (kvs := kvN l)) (fun j σ H' => ∃ (ahd : List (Nat × Nat)) (fo' : Nat) (y6 y7 y8 y9 : Option V), σ = [some (.ref a), some (.int st), some (.ref t), some (.int fo'), some (.ref lv), some (.int (0 + i)), some (.ref ah), y7, y8, y9] ∧ H' ah = some (.dK (kvN ahd)) ∧ (ahd.map (·.1)).Nodup ∧ (∀ x ∈ ahd.map (·.1), x < b.length) ∧
        fo' + wS ahd (cM b r) + wS (l.drop j) (cM b (r + 1)) = cM b 9 st ∧ Stay H')
        ⟨[], fo, y6, _, _, _, rfl, by rw [upd_ne alv.symm]; exact hah0, by simp, (fun x hx => by simp at hx), (by rw [wS_nil, List.drop_zero]; omega), upd_same, .wr (by simp)⟩ (fun j σ H' _ ⟨_, _, _, _, _, _, _, _, _, _, _, h⟩ => h.1) ?_ ?_
      · rintro j x σ H5 H' hj ⟨ahd, fo', y6, y7, y8, y9, rfl, hA, nda, alt, hs5, stay⟩ ⟨rfl, k, v, hk, rfl⟩
        obtain ⟨q0, hq0, eq0⟩ : ∃ q0, l[j]? = some q0 ∧ (k, v) = (kN q0.1, nV q0.2) := by
          unfold kvN at hk
          rw [List.getElem?_map] at hk
          cases e : l[j]? with
          | none => rw [e] at hk; cases hk
          | some q0 => rw [e] at hk; exact ⟨q0, rfl, (Option.some.inj hk).symm⟩
        cases eq0
        obtain ⟨x, n⟩ := q0
        have hx : x < b.length := llt x (List.mem_map.mpr ⟨_, List.mem_of_getElem? hq0, rfl⟩)
        obtain ⟨ht5, hp5⟩ := stays stay
        obtain ⟨g, hg, hga⟩ := back_get hp5 hx
        rw [drop_at hq0, wS_cons] at hs5
        have hs5 : fo' + wS ahd (cM b r) + (n * cM b (r + 1) x + wS (l.drop (j + 1)) (cM b (r + 1))) = cM b 9 st := hs5
        have hlv5 := stay.1
        -- if back[state] != []
        refine ⟨_, rfl, _, rfl, t, _, _, _, rfl, rfl, .of ht5, atI_nat hg, Nat.zero_le _, fun z hz => ?_⟩
        have x0 : Ext [] H' (upd H' z (.lst [])) := .new hz
        have hg0 := x0.at hga (by simp)
        rw [map_nV_int] at hg0
        refine ⟨_, _, .lst (.of hg0) (dp_ints _), .lst (.of upd_same) .nil, shaped_ints _, by decide, _, rfl, ?_⟩
        have eb : decide ((backL b x).map (fun n : Nat => (n : Int)) = []) = decide (backL b x = []) := decide_eq_decide.mpr List.map_eq_nil_iff
        rw [eqv_nil, eb, back_ring fb x, Bool.not_not]
        have stay6 : Stay (upd H' z (.lst [])) := ⟨x0.at hlv5 (by simp), stay.2.trans x0.weak⟩
        have hA6 := x0.at hA (by simp)
        generalize upd H' z (.lst []) = H6 at *
        have dget : DGet H6 lv (.int x) (some (nV n)) := by
          have h1 := getN_at nd hq0
          exact .inl ⟨kvN l, kN x, .inr ⟨od, stay6.1⟩, rfl, h1.symm⟩
        cases hrg : ringB b x with
        | true =>
          refine iteT ⟨_, rfl, _, rfl, _, rfl, lv, _, rfl, dget, _, _, rfl, rfl, ?_⟩
          refine ⟨ahd, fo' + n, y6, _, _, _, rfl, hA6, nda, alt, ?_, stay6⟩
          have : cM b (r + 1) x = 1 := by rw [c_turn, hrg]; rfl
          rw [this, Nat.mul_one] at hs5
          omega
        | false =>
          refine iteF ?_
          have hcx : cM b (r + 1) x = ((mvs b x).map fun p => cM b r p.2).sum := by rw [c_turn, hrg]; rfl
          obtain ⟨u, hu, c, ps, rfl, hc, hps⟩ := Paired.get hls (mvs_lt hx)
          have plen := Paired.len hps
          rw [hcx] at hs5
          refine ⟨_, rfl, _, rfl, a, _, _, _, rfl, rfl, tr stay6 ha, atI_nat hu, c, rfl, ⟨_, tr stay6 hc.sq⟩, ?_⟩
          refine for_tup (K := K) (a := c) (xs := ps.map V.ref) (fun k σ H' => ∃ (ahd : List (Nat × Nat)) (y8 y9 : Option V), σ = [some (.ref a), some (.int st), some (.ref t), some (.int fo'), some (.ref lv), some (.int (0 + i)), some (.ref ah), some (.int x), y8, y9] ∧ H' ah = some (.dK (kvN ahd)) ∧ (ahd.map (·.1)).Nodup ∧ (∀ x ∈ ahd.map (·.1), x < b.length) ∧
            fo' + wS ahd (cM b r) + n * ((((mvs b x).drop k).map fun p => cM b r p.2).sum) + wS (l.drop (j + 1)) (cM b (r + 1)) = cM b 9 st ∧ Stay H')
            ⟨ahd, _, _, rfl, hA6, nda, alt, (by rw [List.drop_zero]; omega), stay6⟩ (fun k σ H' _ ⟨_, _, _, _, _, _, _, _, h⟩ => tr h hc.sq) ?_ ?_
          · rintro k v σ H7 hv ⟨ahd, y8, y9, rfl, hA7, nd7, alt7, hs7, stay7⟩
            obtain ⟨g, hg, rfl⟩ := map_at hv
            obtain ⟨p, hp, hcp⟩ := Paired.get' hps hg
            have hp2 := fb.to (List.mem_of_getElem? hp)
            have hcp7 : MvV K H7 g p := tr stay7 hcp
            have dget : DGet H7 lv (.int x) (some (nV n)) := by
              have h1 := getN_at nd hq0
              exact .inl ⟨kvN l, kN x, .inr ⟨od, stay7.1⟩, rfl, h1.symm⟩
            rw [drop_at hp, List.map_cons, List.sum_cons, Nat.mul_add] at hs7
            refine ⟨g, _, rfl, hcp7, rfl, _, _, rfl, _, _, rfl, rfl, ?_⟩
            have a8 : ahd.length ≤ b.length := by
              have := nodup_le nd7 alt7
              rwa [List.length_map] at this
            have hv : V.int ((getN ahd p.2 : Int) + (n : Int)) = nV (getN ahd p.2 + n) := congrArg V.int (Int.natCast_add _ _).symm
            refine ⟨_, rfl, ah, rfl, .inl ⟨_, .inl hA7⟩, _, rfl, _, DGet.k (k := kN p.2) hA7, _, rfl, _, rfl, lv, _, rfl, dget, _, _, getD_kvN _ _, rfl, _, rfl, _, rfl, ah, _, rfl, DPut.k (k := kN p.2) hA7 (by unfold kvN; rw [List.length_map]; exact small1000 (by omega)), ?_⟩
            refine ⟨putN ahd p.2 (getN ahd p.2 + n), _, _, rfl, (by rw [upd_same]; show some (HO.dK (putK (kvN ahd) (kN p.2) (V.int ((getN ahd p.2 : Int) + (n : Int))))) = _; rw [hv, put_kvN]), put_nd nd7, put_lt alt7 hp2, ?_, ?_, ?_⟩
            · rw [wS_put nd7]
              omega
            · rw [upd_ne alv]
              exact stay7.1
            · exact stay7.2.trans (.wr (by simp))
          · rintro σ H7 ⟨ahd, y8, y9, rfl, hA7, nd7, alt7, hs7, stay7⟩
            rw [List.length_map, plen, List.drop_length] at hs7
            exact ⟨ahd, fo', y6, _, _, _, rfl, hA7, nd7, alt7, (by simpa using hs7), stay7⟩
      · rintro σ H5 ⟨ahd, fo', y6, y7, y8, y9, rfl, hA, nda, alt, hs5, stay⟩
        rw [kl, List.drop_length, wS_nil, Nat.add_zero] at hs5
        refine ⟨stay.1, _, rfl, ah, ahd, fo', _, _, _, _, _, rfl, by rw [upd_ne alv.symm]; exact hA, nda, alt, by rw [hr9']; exact hs5, fun x o nx hx => ?_⟩
        by_cases hxl : x = lv
        · subst hxl
          have h4 := f3 _ _ nx hx
          rw [hlv0] at h4
          rw [upd_same, h4]
        · have hxa : x ≠ ah := fun z => by rw [z, ah2] at hx; cases hx
          rw [upd_ne hxl]
          exact stay.2 _ _ (by simp [hxl, hxa]) (f3 _ _ nx hx)
    · rintro σ H3 ⟨lv, l, fo, y5, y6, y7, y8, y9, rfl, hlv, nd, llt, hsum, e3⟩
      have z0 : ∀ l : List (Nat × Nat), wS l (cM b 0) = 0 := by
        intro l
        induction l with
        | nil => rfl
        | cons x r ih => rw [wS_cons, ih]; rfl
      have hsum : fo + wS l (cM b 0) = cM b 9 st := hsum
      rw [z0, Nat.add_zero] at hsum
      subst hsum
      exact ⟨_, rfl, q H3 (f2.trans e3)⟩
end
end Nv
set_option Elab.async false
set_option linter.all false
set_option maxRecDepth 100000
namespace Nv
open PySem PySem.Spec PyProof.Rows L2
section
variable {P : Program} {w : World} {K : PySem.W.Frag} {mg : Str → Option Value} {base : Heap}
/-! ### the least number without answers -/
theorem sum_nats (l : List Nat) : (l.map fun n : Nat => (n : Int)).sum = ((l.sum : Nat) : Int) := by
  induction l with
  | nil => rfl
  | cons x r ih => rw [List.map_cons, List.sum_cons, List.sum_cons, ih, Int.natCast_add]
theorem cnt_at {f : Nat → Nat} {n k : Nat} (h : k < n) : (((List.range n).map f).map nV)[k]? = some (nV (f k)) := by
  rw [List.getElem?_map, List.getElem?_map, List.getElem?_range h]
  rfl
theorem fork_two {b : Book} {s : Nat} (h : s ∈ forksM b) : 1 < (mvs b s).length := (fork_iff.mp h).2
theorem chain_end {b : Book} {s j f : Nat} (h : Chain b s j f) (h2 : 1 < (mvs b s).length) : s = f ∧ j = 0 := by
  cases h with
  | zero => exact ⟨rfl, rfl⟩
  | step e _ => rw [e] at h2; simp at h2
theorem chain_go {b : Book} {s j f : Nat} (h : Chain b s j f) (hf : f ∈ forksM b) (h2 : ¬ 1 < (mvs b s).length) : ∃ p i, mvs b s = [p] ∧ j = i + 1 ∧ Chain b p.2 i f := by
  cases h with
  | zero => exact absurd (fork_two hf) h2
  | @step s j f p e hc => exact ⟨p, j, e, rfl, hc⟩
def sp_law_win_free (K : PySem.W.Frag) : Sp := fun vs H Q _ => ∃ (v : V) (b : Book), vs = [v] ∧ BkV K H v b ∧ OkB b ∧ forksM b ≠ [] ∧ ∀ (H' : Hp), Ext [] H H' → Q (oN (freeM b)) H'
theorem sc_law_win_free : FnScope ["book", "state", "turn", "counts", "message", "to"] ["book"] (defScope s_law_win_free) := ⟨rfl, rfl, rfl, by decide +kernel, rfl, by decide +kernel, by decide +kernel⟩
theorem ok_law_win_free (T : Tx K mg) : FnOk P w K mg base CX0 4 T.law_win_free.f T.law_win_free.fd ["book"] (sp_law_win_free K) := by
  refine T.law_win_free.F.ok sc_law_win_free (fun vs H Q E h => ?_) (fun cdv A outer s H vs Q E hr h => ?_)
  · obtain ⟨v, b, rfl, _⟩ := h; rfl
  · obtain ⟨v, b, rfl, hb, ok, hne, q⟩ := h
    have fb := ok.toFormB
    have h8 := fb.eight
    obtain ⟨a, ls, rfl, ha, hls⟩ := id hb
    have llen := Paired.len hls
    obtain ⟨j0, hj0, hfork, hchain⟩ := chain_first ok hne
    refine ⟨_, (pss_cons (ps_if (pt_cmpR (op_neD (hr.units)) (pe_call (ok_law_win_ring_forks T) (hr.mono (by decide)) (by rfl) T.law_win_ring_forks.g T.law_win_ring_forks.F.kp T.law_win_ring_forks.b .nil pass0 (pa_cons (pv 0) pa_nil)) (pe_lst pa_nil) (nomark _))
        (pss_one (ps_ret pe_non))
        pss_nil)
      (pss_cons (ps_set (i := 1) sc_law_win_free.nd rfl (.inl rfl) pe_int)
      (C8.pss_cut (ps_for PassesOwn.never rfl (pi_range1 (by rfl) T.n_range (pa_cons pe_int pa_nil)) (pg_name (i := 2) sc_law_win_free.nd rfl (.inl rfl))
        (pss_cons (ps_if (pt_cmpR op_gt (pe_callB call_len_seq (by rfl) T.n_len PySem.boot_len (pa_cons (pe_ix ix_tup (pv 0) (pv 1) (fun _ _ => rfl)) pa_nil)) pe_int (nomark _))
          (pss_one ps_break)
          pss_nil)
        (pss_one (ps_set (i := 1) sc_law_win_free.nd rfl (.inl rfl) (pe_ix ix_tup (pe_ix ix_tup (pe_ix ix_tup (pv 0) (pv 1) (fun _ _ => rfl)) pe_int (fun _ _ => rfl)) pe_int (fun _ _ => rfl))))))
      (pss_cons (ps_setLc (i := 3) (own := [("message", 4), ("to", 5)]) rfl sc_law_win_free.nd rfl rfl (sw_true rfl rfl rfl (by decide +kernel)) (pi_tup (pe_ix ix_tup (pv 0) (pv 1) (fun _ _ => rfl))) (blkOk_by (own := [("message", 4), ("to", 5)]) (N := ["book", "state", "turn", "counts", "message", "to"]) (sc := defScope s_law_win_free) (by decide +kernel)) (fun _ _ _ _ _ => (pg_tupK (n := 2) K rfl (pgs_cons (pg_name (i := 4) sc_law_win_free.nd rfl (.inl rfl)) (pgs_cons (pg_name (i := 5) sc_law_win_free.nd rfl (.inl rfl)) pgs_nil)))) (fun _ _ _ _ _ => pts_nil) (fun _ _ _ _ _ => (pe_call (ok_law_win_rays T) (hr.mono (by decide)) (by rfl) T.law_win_rays.g T.law_win_rays.F.kp T.law_win_rays.b .nil pass0 (pa_cons (pv 0) (pa_cons (pv 5) pa_nil)))))
      (pss_one (ps_ret (pe_mid (pe_ifExp (PW.pt (pw_or (pt_cmpR op_gt (pe_callB (cr_sum rfl) (by rfl) T.n_sum (by decide +kernel) (pa_cons (pv 3) pa_nil)) pe_int (nomark _)) (pw_or1 (pt_cmpR op_in_seq pe_int (pv 3) (by rfl))))) pe_int pe_int)))))))), ?_⟩
    refine ⟨_, rfl, .ref a, b, rfl, hb, fb, fun t H1 ht e1 => ⟨Nat.zero_le _, fun z hz => ?_⟩⟩
    have e2 := e1.put2 (o := .lst []) hz
    have ht2 := (Ext.new (L := []) (o := .lst []) hz).at ht (by simp)
    rw [map_nV_int] at ht2
    refine ⟨_, _, .lst (.of ht2) (dp_ints _), .lst (.of upd_same) .nil, shaped_ints _, by decide, _, rfl, ?_⟩
    have eb : decide ((ringForksM b).map (fun n : Nat => (n : Int)) = []) = decide (ringForksM b = []) := decide_eq_decide.mpr List.map_eq_nil_iff
    rw [eqv_nil, eb]
    generalize upd H1 z (.lst []) = H2 at *
    unfold freeM at q
    by_cases hrf : ringForksM b = []
    · rw [decide_eq_true hrf]
      rw [if_pos hrf] at q
      refine iteF ?_
      refine ⟨fun σ H' => ∃ y : Option V, σ = [some (.ref a), some (.int (firstF b)), y, none, none, none] ∧ H' = H2, ?_, ?_⟩
      · refine ⟨8, rfl, by decide, by decide, for_range (lo := 0) (n := 8) (fun i σ H' => ∃ (s j : Nat) (y : Option V), σ = [some (.ref a), some (.int s), y, none, none, none] ∧ Chain b s j (firstF b) ∧ i + j ≤ 7 ∧ s < b.length ∧ H' = H2) ⟨0, j0, _, rfl, hchain, by omega, fb.one, rfl⟩ ?_ ?_⟩
        · rintro i σ H' hi ⟨s, j, y, rfl, hc, hij, hs, rfl⟩
          obtain ⟨u, hu, c, ps, rfl, hcz, hps⟩ := Paired.get hls (mvs_lt hs)
          have plen := Paired.len hps
          have hc2 : SqT K _ c (ps.map V.ref) := (e2.tz Lsts.nil hcz).sq
          refine ⟨_, rfl, _, rfl, a, _, _, _, rfl, rfl, e2.tup Lsts.nil ha, atI_nat hu, c, _, rfl, .inr hc2, _, _, rfl, rfl, _, rfl, ?_⟩
          have ed : decide (((ps.map V.ref).length : Int) > 1) = decide (1 < (mvs b s).length) := by
            rw [List.length_map, plen]
            exact decide_eq_decide.mpr (by omega)
          rw [ed]
          refine ifB (fun h2 => ?_) (fun h2 => ?_)
          · obtain ⟨rfl, rfl⟩ := chain_end hc (of_decide_eq_true h2)
            exact ⟨_, rfl, rfl⟩
          · obtain ⟨p, j, hm, rfl, hc3⟩ := chain_go hc hfork (of_decide_eq_false h2)
            rw [hm] at hps
            cases hps with
            | @cons g _ gs _ hg hgs =>
              exact ⟨_, rfl, _, rfl, a, _, _, _, rfl, rfl, e2.tup Lsts.nil ha, atI_nat hu, c, _, _, _, rfl, rfl, hc2, atI_nat (j := 0) rfl, g, _, _, _, rfl, rfl, hg.ext0 e2, atI_nat (j := 1) rfl, p.2, j, _, rfl, hc3, by omega, fb.to (s := s) (by rw [hm]; simp), rfl⟩
        · rintro σ H' ⟨s, j, y, rfl, hc, hij, hs, rfl⟩
          omega
      · rintro σ H' ⟨y, rfl, rfl⟩
        have hf8 := forks_lt hfork
        obtain ⟨u, hu, c, ps, rfl, hcz, hps⟩ := Paired.get hls (mvs_lt hf8)
        have plen := Paired.len hps
        have five := (fb.ok hf8).few
        refine ⟨_, rfl, _, rfl, a, _, _, _, rfl, rfl, e2.tup Lsts.nil ha, atI_nat hu, c, rfl, ⟨_, (e2.tz Lsts.nil hcz).sq⟩, fun D hD => ?_⟩
        refine lc_tup (K := K) (a := c) (xs := ps.map V.ref) (fun i H3 => H3 D = some (.lst ((((mvs b (firstF b)).take i).map fun p => cM b 9 p.2).map nV)) ∧ Ext [] H' H3) ⟨by simp; exact upd_same, .new hD⟩ (fun i H3 _ ⟨_, e⟩ => ((e2.trans e).tz Lsts.nil hcz).sq) ?_ ?_
        · rintro i v H3 hv ⟨hX, e⟩
          obtain ⟨g, hg, rfl⟩ := map_at hv
          obtain ⟨p, hpp, hcp⟩ := Paired.get' hps hg
          refine ⟨g, _, rfl, hcp.ext0 (e2.trans e), rfl, _, _, rfl, _, _, rfl, rfl, rfl, yes ?_⟩
          refine ⟨_, rfl, _, rfl, .ref a, b, p.2, rfl, hb.ext0 (e2.trans e), fb, fb.to (List.mem_of_getElem? hpp), fun H4 e4 => ?_⟩
          refine ⟨_, e4.at hX (by simp), ?_, ?_, (e.trans e4).put hD⟩
          · rw [List.length_map, List.length_map, List.length_take]
            exact small1000 (by omega)
          · rw [upd_same, List.take_add_one, hpp, List.map_append, List.map_append]
            rfl
        · rintro H3 ⟨hX, e⟩
          rw [List.length_map, plen, List.take_length] at hX
          have hX : H3 D = some (.lst ((countL b).map nV)) := hX
          have hXi := hX
          rw [map_nV_int] at hXi
          have fin : ∀ x : Bool, x = decide (2 < (countL b).sum ∨ 2 ∈ countL b) → (x = true → Q (.int 3) H3) ∧ (x = false → Q (.int 2) H3) := fun x hx => by
            have := q H3 (e2.trans e)
            constructor
            · intro h
              rw [hx] at h
              rw [if_pos (of_decide_eq_true h)] at this
              exact this
            · intro h
              rw [hx] at h
              rw [if_neg (of_decide_eq_false h)] at this
              exact this
          refine ⟨fun v H' => Q v H', ⟨_, rfl, D, _, rfl, .of hXi, _, _, rfl, rfl, _, rfl, ?_⟩, fun v H' h => h⟩
          rw [sum_nats]
          by_cases h3 : 2 < (countL b).sum
          · rw [decide_eq_true (show ((countL b).sum : Int) > 2 by omega)]
            exact iteT ((fin true (by rw [decide_eq_true (.inl h3)])).1 rfl)
          · rw [decide_eq_false (show ¬ ((countL b).sum : Int) > 2 by omega)]
            refine iteF ⟨_, rfl, D, _, rfl, .inl (.of hX), rfl, flat_nV _, _, rfl, ?_⟩
            show (if inV (nV 2) ((countL b).map nV) = true then _ else _)
            rw [inV_nV]
            by_cases h2 : 2 ∈ countL b
            · rw [decide_eq_true h2]
              exact iteT ((fin true (by rw [decide_eq_true (.inr h2)])).1 rfl)
            · rw [decide_eq_false h2]
              exact iteF ((fin false (by rw [decide_eq_false (fun z => z.elim h3 h2)])).2 rfl)
    · rw [decide_eq_false hrf]
      rw [if_neg hrf] at q
      exact iteT (q _ e2)
theorem sc_ray_counts : FnScope ["book", "ring", "counts", "_", "state", "message", "to"] ["book"] (defScope s_ray_counts) := ⟨rfl, rfl, rfl, by decide +kernel, rfl, by decide +kernel, by decide +kernel⟩
def sp_ray_counts (K : PySem.W.Frag) : Sp := fun vs H Q _ => ∃ (v : V) (b : Book), vs = [v] ∧ BkV K H v b ∧ FormB b ∧ ∀ (t : Addr) (H' : Hp), H' t = some (.lst (((List.range b.length).map (cM b b.length)).map nV)) → Ext [] H H' → Q (.ref t) H'
theorem rep_zero (b : Book) : ∀ n, (List.replicate n [V.int 0]).flatten = ((List.range n).map (cM b 0)).map nV
  | 0 => rfl
  | n + 1 => by
    have h : ∀ m, (List.replicate m [V.int 0]).flatten = List.replicate m (V.int 0) := by
      intro m
      induction m with
      | zero => rfl
      | succ m ih => rw [List.replicate_succ, List.flatten_cons, ih, List.replicate_succ]; rfl
    rw [h]
    refine (List.eq_replicate_iff.mpr ⟨by simp, fun x hx => ?_⟩).symm
    obtain ⟨y, hy, rfl⟩ := List.mem_map.mp hx
    obtain ⟨z, _, rfl⟩ := List.mem_map.mp hy
    rfl
theorem ok_ray_counts (T : Tx K mg) : FnOk P w K mg base CX0 4 T.ray_counts.f T.ray_counts.fd ["book"] (sp_ray_counts K) := by
  refine T.ray_counts.F.ok sc_ray_counts (fun vs H Q E h => ?_) (fun cdv A outer s H vs Q E hr h => ?_)
  · obtain ⟨v, b, rfl, _⟩ := h; rfl
  · obtain ⟨v, b, rfl, hb, fb, q⟩ := h
    have h8 := fb.eight
    obtain ⟨a, ls, rfl, ha, hls⟩ := id hb
    have llen := Paired.len hls
    refine ⟨_, (pss_cons (ps_set (i := 1) sc_ray_counts.nd rfl (.inr rfl) (pe_call (ok_ring_states T) (hr.mono (by decide)) (by rfl) T.ring_states.g T.ring_states.F.kp T.ring_states.b .nil pass0 (pa_cons (pv 0) pa_nil)))
      (pss_cons (ps_set (i := 2) sc_ray_counts.nd rfl (.inr rfl) (pe_op op_rep (pe_lst (pa_cons pe_int pa_nil)) (pe_callB call_len_seq (by rfl) T.n_len PySem.boot_len (pa_cons (pv 0) pa_nil))))
      (pss_cons (ps_for PassesOwn.never rfl (pi_range1 (by rfl) T.n_range (pa_cons (pe_callB call_len_seq (by rfl) T.n_len PySem.boot_len (pa_cons (pv 0) pa_nil)) pa_nil)) (pg_name (i := 3) sc_ray_counts.nd rfl (.inl rfl))
        (pss_one (ps_set (i := 2) sc_ray_counts.nd rfl (.inr rfl) (pe_lc (own := [("state", 4)]) rfl sc_ray_counts.nd (pi_range1 (by rfl) T.n_range (pa_cons (pe_callB call_len_seq (by rfl) T.n_len PySem.boot_len (pa_cons (pv 0) pa_nil)) pa_nil)) (blkOk_by (own := [("state", 4)]) (N := ["book", "ring", "counts", "_", "state", "message", "to"]) (sc := defScope s_ray_counts) (by decide +kernel)) (fun _ _ _ _ _ => (pg_name (i := 4) sc_ray_counts.nd rfl (.inl rfl))) (fun _ _ _ _ _ => pts_nil) (fun _ _ _ _ _ => (pe_mid (pe_ifExp (pt_cmpR (op_in_seqK K) (pv 4) (pv 1) (by rfl)) pe_int (pe_callB (cr_sumK K) (by rfl) T.n_sum (by decide +kernel) (pa_cons (pe_lc (own := [("message", 5), ("to", 6)]) rfl sc_ray_counts.nd (pi_tupK K (pe_ix (ix_tupK K) (pv 0) (pv 4) (fun _ _ => rfl))) (blkOk_by (own := [("message", 5), ("to", 6)]) (by kernel_rfl)) (fun _ _ _ _ _ => (pg_tupK (n := 2) K rfl (pgs_cons (pg_name (i := 5) sc_ray_counts.nd rfl (.inl rfl)) (pgs_cons (pg_name (i := 6) sc_ray_counts.nd rfl (.inl rfl)) pgs_nil)))) (fun _ _ _ _ _ => pts_nil) (fun _ _ _ _ _ => (pe_ix (ix_listK K) (pv 2) (pv 6) (fun _ _ => rfl)))) pa_nil)))))))))
      (pss_one (ps_ret (pv 2)))))), ?_⟩
    refine ⟨_, rfl, .ref a, b, rfl, hb, fb, fun rg H1 hrg e1 => ?_⟩
    refine ⟨(by show 1 ≤ sizeLine; decide), fun x hx => ?_⟩
    have x0 : Ext [] H1 (upd H1 x (.lst [.int 0])) := .new hx
    refine ⟨_, rfl, a, _, rfl, .inr ((e1.trans x0).tup Lsts.nil ha), x, _, _, rfl, rfl, upd_same, by omega, by omega, ?_, fun ro hro => ?_⟩
    · rw [forTo llen]
      exact Nat.le_of_lt (small1000 (by show 1 * b.length ≤ 1000; omega))
    rw [forTo llen, rep_zero b]
    have x1 := x0.put2 (o := .lst (((List.range b.length).map (cM b 0)).map nV)) hro
    refine ⟨_, rfl, a, _, rfl, .inr ((e1.trans x1).tup Lsts.nil ha), _, rfl, by omega, by omega, ?_⟩
    rw [forTo llen]
    refine for_range (lo := 0) (n := b.length) (fun r σ H' => ∃ (ct : Addr) (y : Option V), σ = [some (.ref a), some (.ref rg), some (.ref ct), y, none, none, none] ∧ H' ct = some (.lst (((List.range b.length).map (cM b r)).map nV)) ∧ Ext [] H1 H') ⟨ro, _, rfl, upd_same, x1⟩ ?_ ?_
    · rintro r σ H2 hrr ⟨ct, y, rfl, hct, e2⟩
      have f2 := e1.trans e2
      refine ⟨_, rfl, a, _, rfl, .inr (f2.tup Lsts.nil ha), _, rfl, by omega, by omega, fun D hD => ?_⟩
      rw [forTo llen]
      refine lc_range (lo := 0) (n := b.length) (fun i H' => H' D = some (.lst (((List.range i).map (cM b (r + 1))).map nV)) ∧ Ext [] H2 H') ⟨upd_same, .new hD⟩ ?_ ?_
      · rintro m H3 hm ⟨hX, e3⟩
        simp only [Int.zero_add]
        refine ⟨rfl, yes ?_⟩
        have f3 := f2.trans e3
        refine ⟨fun v H' => v = nV (cM b (r + 1) m) ∧ Ext [] H3 H', ?_, ?_⟩
        · refine ⟨_, rfl, _, rfl, rg, _, rfl, .inl (.of ((e2.trans e3).at hrg (by simp))), rfl, flat_nV _, _, rfl, ?_⟩
          show (if inV (nV m) ((ringsM b).map nV) = true then _ else _)
          rw [inV_nV, mem_rings hm, c_turn]
          cases hrb : ringB b m with
          | true => exact iteT ⟨rfl, .refl⟩
          | false =>
            refine iteF ?_
            obtain ⟨u, hu, c, ps, rfl, hcz, hps⟩ := Paired.get hls (mvs_lt hm)
            have plen := Paired.len hps
            have five := (fb.ok hm).few
            refine ⟨_, rfl, _, rfl, a, _, _, _, rfl, rfl, f3.tup Lsts.nil ha, atI_nat hu, c, rfl, ⟨_, (f3.tz Lsts.nil hcz).sq⟩, fun D2 hD2 => ?_⟩
            refine lc_tup (K := K) (a := c) (xs := ps.map V.ref) (fun i H4 => H4 D2 = some (.lst ((((mvs b m).take i).map fun p => cM b r p.2).map nV)) ∧ Ext [] H3 H4) ⟨by simp; exact upd_same, .new hD2⟩ (fun i H4 _ ⟨_, e⟩ => ((f3.trans e).tz Lsts.nil hcz).sq) ?_ ?_
            · rintro i v H4 hv ⟨hX2, e4⟩
              obtain ⟨g, hg, rfl⟩ := map_at hv
              obtain ⟨p, hpp, hcp⟩ := Paired.get' hps hg
              have hp2 := fb.to (List.mem_of_getElem? hpp)
              refine ⟨g, _, rfl, hcp.ext0 (f3.trans e4), rfl, _, _, rfl, _, _, rfl, rfl, rfl, yes ?_⟩
              refine ⟨_, rfl, _, rfl, ct, _, _, _, rfl, rfl, .of ((e3.trans e4).at hct (by simp)), atI_nat (cnt_at hp2), ?_⟩
              refine ⟨_, hX2, ?_, ?_, e4.put hD2⟩
              · rw [List.length_map, List.length_map, List.length_take]
                exact small1000 (by omega)
              · rw [upd_same, List.take_add_one, hpp, List.map_append, List.map_append]
                rfl
            · rintro H4 ⟨hX2, e4⟩
              rw [List.length_map, plen, List.take_length, map_nV_int] at hX2
              refine ⟨D2, _, rfl, .of hX2, ?_, e4⟩
              rw [sum_nats, if_neg (by simp)]
        · rintro v H4 ⟨rfl, e4⟩
          refine ⟨_, e4.at hX (by simp), ?_, ?_, (e3.trans e4).put hD⟩
          · rw [List.length_map, List.length_map, List.length_range]
            exact small1000 (by omega)
          · rw [upd_same, List.range_succ, List.map_append, List.map_append]
            rfl
      · rintro H3 ⟨hX, e3⟩
        exact ⟨D, _, rfl, hX, e2.trans e3⟩
    · rintro σ H2 ⟨ct, y, rfl, hct, e2⟩
      exact ⟨_, rfl, q ct H2 hct (e1.trans e2)⟩
theorem sc_least_free : FnScope ["book", "counts", "state", "behind", "message", "to"] ["book"] (defScope s_least_free) := ⟨rfl, rfl, rfl, by decide +kernel, rfl, by decide +kernel, by decide +kernel⟩
theorem ok_least_free (T : Tx K mg) : FnOk P w K mg base CX0 5 T.least_free.f T.least_free.fd ["book"] (sp_law_win_free K) := by
  refine T.least_free.F.ok sc_least_free (fun vs H Q E h => ?_) (fun cdv A outer s H vs Q E hr h => ?_)
  · obtain ⟨v, b, rfl, _⟩ := h; rfl
  · obtain ⟨v, b, rfl, hb, ok, hne, q⟩ := h
    have fb := ok.toFormB
    have h8 := fb.eight
    obtain ⟨a, ls, rfl, ha, hls⟩ := id hb
    have llen := Paired.len hls
    obtain ⟨j0, hj0, hfork, hchain⟩ := chain_first ok hne
    refine ⟨_, (pss_cons (ps_if (pt_truth (pe_call (ok_forks_on_rings T) (hr.mono (by decide)) (by rfl) T.forks_on_rings.g T.forks_on_rings.F.kp T.forks_on_rings.b .nil pass0 (pa_cons (pv 0) pa_nil)) (by intro _; rfl))
        (pss_one (ps_ret pe_non))
        pss_nil)
      (pss_cons (ps_set (i := 1) sc_least_free.nd rfl (.inr rfl) (pe_call (ok_ray_counts T) (hr.mono (by decide)) (by rfl) T.ray_counts.g T.ray_counts.F.kp T.ray_counts.b .nil pass0 (pa_cons (pv 0) pa_nil)))
      (pss_cons (ps_set (i := 2) sc_least_free.nd rfl (.inl rfl) pe_int)
      (pss_cons (ps_while PassesOwn.never (pt_cmpR op_eq (pe_callB call_len_seq (by rfl) T.n_len PySem.boot_len (pa_cons (pe_ix ix_tup (pv 0) (pv 2) (fun _ _ => rfl)) pa_nil)) pe_int (nomark _))
        (pss_one (ps_set (i := 2) sc_least_free.nd rfl (.inl rfl) (pe_ix ix_tup (pe_ix ix_tup (pe_ix ix_tup (pv 0) (pv 2) (fun _ _ => rfl)) pe_int (fun _ _ => rfl)) pe_int (fun _ _ => rfl)))))
      (pss_cons (ps_setLc (i := 3) (own := [("message", 4), ("to", 5)]) rfl sc_least_free.nd rfl rfl (sw_true rfl rfl rfl (by decide +kernel)) (pi_tup (pe_ix ix_tup (pv 0) (pv 2) (fun _ _ => rfl))) (blkOk_by (own := [("message", 4), ("to", 5)]) (N := ["book", "counts", "state", "behind", "message", "to"]) (sc := defScope s_least_free) (by decide +kernel)) (fun _ _ _ _ _ => (pg_tupK (n := 2) K rfl (pgs_cons (pg_name (i := 4) sc_least_free.nd rfl (.inl rfl)) (pgs_cons (pg_name (i := 5) sc_least_free.nd rfl (.inl rfl)) pgs_nil)))) (fun _ _ _ _ _ => pts_nil) (fun _ _ _ _ _ => (pe_ix (ix_listK K) (pv 1) (pv 5) (fun _ _ => rfl))))
      (pss_cons (ps_if (PW.pt (pw_or (pt_cmpR op_gt (pe_callB (cr_sum rfl) (by rfl) T.n_sum (by decide +kernel) (pa_cons (pv 3) pa_nil)) pe_int (nomark _)) (pw_or1 (pt_cmpR op_gt (pe_callB (cr_max rfl) (by rfl) T.n_max (by decide +kernel) (pa_cons (pv 3) pa_nil)) pe_int (nomark _)))))
        (pss_one (ps_ret pe_int))
        pss_nil)
      (pss_one (ps_ret pe_int)))))))), ?_⟩
    refine ⟨_, rfl, .ref a, b, rfl, hb, fb, fun t H1 ht e1 => ⟨_, .inr (.inl ⟨_, ht, rfl⟩), ?_⟩⟩
    show (if (!((ringForksM b).map nV).isEmpty) = true then _ else _)
    have em : ((ringForksM b).map nV).isEmpty = (ringForksM b).isEmpty := by cases ringForksM b <;> rfl
    rw [em]
    unfold freeM at q
    by_cases hrf : ringForksM b = []
    · rw [if_pos hrf] at q
      rw [hrf]
      refine iteF ?_
      refine ⟨_, rfl, .ref a, b, rfl, hb.ext0 e1, fb, fun ct H2 hct e2 => ?_⟩
      have f2 := e1.trans e2
      refine ⟨fun m σ H' => ∃ s : Nat, σ = [some (.ref a), some (.ref ct), some (.int s), none, none, none] ∧ Chain b s m (firstF b) ∧ s < b.length ∧ H' = H2, ⟨j0, 0, rfl, hchain, fb.one, rfl⟩, ?_⟩
      rintro m σ H' ⟨s, rfl, hc, hs, rfl⟩
      obtain ⟨u, hu, c, ps, rfl, hcz, hps⟩ := Paired.get hls (mvs_lt hs)
      have plen := Paired.len hps
      have five := (fb.ok hs).few
      have hc2 : SqT K _ c (ps.map V.ref) := (f2.tz Lsts.nil hcz).sq
      refine ⟨_, rfl, _, rfl, a, _, _, _, rfl, rfl, f2.tup Lsts.nil ha, atI_nat hu, c, _, rfl, .inr hc2, rfl, _, rfl, ?_⟩
      have ed : decide (V.int ((ps.map V.ref).length : Int) = V.int 1) = decide ((mvs b s).length = 1) := by
        rw [dec_int, List.length_map, plen]
        exact decide_eq_decide.mpr (by omega)
      rw [ed]
      refine ifB (fun h1 => ?_) (fun h1 => ?_)
      · have h1 := of_decide_eq_true h1
        obtain ⟨p, j, hm, rfl, hc3⟩ := chain_go hc hfork (by omega)
        refine ⟨fun σ H'' => ∃ s : Nat, σ = [some (.ref a), some (.ref ct), some (.int s), none, none, none] ∧ Chain b s j (firstF b) ∧ s < b.length ∧ H'' = H', fun σ' H'' h => ⟨j, by omega, h⟩, ?_⟩
        rw [hm] at hps
        cases hps with
        | @cons g _ gs _ hg hgs =>
          exact ⟨_, rfl, _, rfl, a, _, _, _, rfl, rfl, f2.tup Lsts.nil ha, atI_nat hu, c, _, _, _, rfl, rfl, hc2, atI_nat (j := 0) rfl, g, _, _, _, rfl, rfl, hg.ext0 f2, atI_nat (j := 1) rfl, p.2, rfl, hc3, fb.to (s := s) (by rw [hm]; simp), rfl⟩
      · have h1 := of_decide_eq_false h1
        have hsf : s = firstF b := by
          by_cases h2 : 1 < (mvs b s).length
          · exact (chain_end hc h2).1
          · obtain ⟨p, j, hm, _⟩ := chain_go hc hfork h2
            rw [hm] at h1
            exact absurd rfl h1
        subst hsf
        refine ⟨_, rfl, _, rfl, a, _, _, _, rfl, rfl, f2.tup Lsts.nil ha, atI_nat hu, c, rfl, ⟨_, hc2⟩, fun D hD => ?_⟩
        refine lc_tup (K := K) (a := c) (xs := ps.map V.ref) (fun i H3 => H3 D = some (.lst ((((mvs b (firstF b)).take i).map fun p => cM b 9 p.2).map nV)) ∧ Ext [] H' H3) ⟨by simp; exact upd_same, .new hD⟩ (fun i H3 _ ⟨_, e⟩ => ((f2.trans e).tz Lsts.nil hcz).sq) ?_ ?_
        · rintro i v H3 hv ⟨hX, e⟩
          obtain ⟨g, hg, rfl⟩ := map_at hv
          obtain ⟨p, hpp, hcp⟩ := Paired.get' hps hg
          have hp2 := fb.to (List.mem_of_getElem? hpp)
          refine ⟨g, _, rfl, hcp.ext0 (f2.trans e), rfl, _, _, rfl, _, _, rfl, rfl, rfl, yes ?_⟩
          refine ⟨_, rfl, _, rfl, ct, _, _, _, rfl, rfl, .of (e.at hct (by simp)), atI_nat (cnt_at hp2), ?_⟩
          refine ⟨_, hX, ?_, ?_, e.put hD⟩
          · rw [List.length_map, List.length_map, List.length_take]
            exact small1000 (by omega)
          · rw [upd_same, List.take_add_one, hpp, List.map_append, List.map_append, c_len fb hp2]
            rfl
        · rintro H3 ⟨hX, e⟩
          rw [List.length_map, plen, List.take_length] at hX
          have hX : H3 D = some (.lst ((countL b).map nV)) := hX
          have hXi := hX
          rw [map_nV_int] at hXi
          have fin : ∀ x : Bool, x = decide (2 < (countL b).sum ∨ 2 ∈ countL b) → (x = true → Q (.int 3) H3) ∧ (x = false → Q (.int 2) H3) := fun x hx => by
            have := q H3 (f2.trans e)
            constructor
            · intro h
              rw [hx] at h
              rw [if_pos (of_decide_eq_true h)] at this
              exact this
            · intro h
              rw [hx] at h
              rw [if_neg (of_decide_eq_false h)] at this
              exact this
          refine ⟨_, rfl, D, _, rfl, .of hXi, _, _, rfl, rfl, _, rfl, ?_⟩
          rw [sum_nats]
          by_cases h3 : 2 < (countL b).sum
          · rw [decide_eq_true (show ((countL b).sum : Int) > 2 by omega)]
            exact iteT ((fin true (by rw [decide_eq_true (.inl h3)])).1 rfl)
          · rw [decide_eq_false (show ¬ ((countL b).sum : Int) > 2 by omega)]
            have cl : 0 < ((countL b).map fun n : Nat => (n : Int)).length := by
              unfold countL
              rw [List.length_map, List.length_map]
              have := fork_two hfork
              omega
            refine iteF ⟨_, rfl, D, _, rfl, .of hXi, cl, fun mx hmx hmax => ⟨_, _, rfl, rfl, _, rfl, ?_⟩⟩
            obtain ⟨m, hm, rfl⟩ := List.mem_map.mp hmx
            have key := most_two h3 hm fun y hy => by
              have := hmax (y : Int) (List.mem_map.mpr ⟨y, hy, rfl⟩)
              omega
            by_cases h2 : 2 ∈ countL b
            · rw [decide_eq_true (show (m : Int) > 1 by have := key.mpr h2; omega)]
              exact iteT ((fin true (by rw [decide_eq_true (.inr h2)])).1 rfl)
            · rw [decide_eq_false (show ¬ (m : Int) > 1 by intro z; exact h2 (key.mp (by omega)))]
              exact iteF ((fin false (by rw [decide_eq_false (fun z => z.elim h3 h2)])).2 rfl)
    · rw [if_neg hrf] at q
      have : (ringForksM b).isEmpty = false := by cases h : ringForksM b with | nil => exact absurd h hrf | cons _ _ => rfl
      rw [this]
      exact iteT (q _ e1)
end
end Nv
set_option Elab.async false
set_option linter.all false
set_option maxRecDepth 100000
namespace Nv
open PySem PySem.Spec PyProof.Rows L2
section
variable {P : Program} {w : World} {K : PySem.W.Frag} {mg : Str → Option Value} {base : Heap}
/-! ### data that is none -/
theorem shaped_mvsT (s : State) : SeqAt.shaped (.tuple (s.map mvD)) = true := by
  have h1 := mvs_lay s
  have h2 := mvs_depth s
  simp [SeqAt.shaped, PyData.canLay0, PyData.depth, h1]
  omega
theorem eqv_mvs_nilT {s : State} : PyData.eqv (.tuple (s.map mvD)) (.tuple []) = decide (s = []) := by
  cases s with
  | nil => rfl
  | cons q r => simp [PyData.eqv, PyData.eqvAll]
theorem flat_oV (l : List (Option Int)) : (l.map oV).all flatV = true := by
  rw [List.all_eq_true]
  intro v hv
  obtain ⟨o, _, rfl⟩ := List.mem_map.mp hv
  cases o <;> rfl
/-! ### a lambda handed to _law_win_heard, within a comprehension -/
open LamX in
theorem pe_heardB {K : PySem.W.Frag} {mg : Str → Option Value} (qn : Str) {X : Cx} (hG : X.A.guards = some []) {k : Nat} (T : Tx K mg) {c P : Addr} {params : Arguments} {body : Expr} {scope : Scope} {t : XK → TE} {p lpos pos : Pos} (eK : X.K = K) (em : X.mg = mg) (hg : Gl X "_law_win_heard") (TB : TabB X.base X.mg c P) (hcode : X.env.code = .ref c)
    (hr : Room (k + 2) X.A) (L : LamS X.env.scope scope) (hdef : defaultsOf params X.env = ([], [])) (hbind : ∀ (q : Str) (cl : List (Str × Addr)) (pm cv ctv : Value), bindArgs (PySem.W.kla_fn "<lambda>" q params body scope cl pm cv ctv) ⟨[], []⟩ = pure [])
    (hbody : ∀ (A : Around) (outer : List Env) (s : Shared) (H : Hp) (E : XK) (f c' : Addr), Room k (A.deeper (lamEnv X scope s.heap.objs.size f c')) → PE (lamCx X A outer s H E scope f c') body (t E)) (hq : X.env.qual = qn := by rfl) :
    PE X (.Call (.Name "_law_win_heard" p) [.Lambda params body scope lpos] [] pos) (tLam [(P, qn ++ "<lambda>")] (THeard T) t) := by
  subst hq
  exact pe_heardA hG T eK em hg TB hcode hr L hdef hbind hbody
end
end Nv
set_option Elab.async false
set_option linter.all false
set_option maxRecDepth 100000
namespace Nv
open PySem PySem.Spec PyProof.Rows L2
section
variable {P : Program} {w : World} {K : PySem.W.Frag} {mg : Str → Option Value} {base : Heap}
/-! ### windows, or none -/
theorem FnOk.or {P : Program} {w : World} {K : PySem.W.Frag} {mg : Str → Option Value} {base : Heap} {CX : CXT} {k : Nat} {f : Addr} {fd : FuncData} {ps : List Str} {sp1 sp2 sp : Sp} (F1 : FnOk P w K mg base CX k f fd ps sp1) (F2 : FnOk P w K mg base CX k f fd ps sp2)
    (h : ∀ vs H Q E, sp vs H Q E → sp1 vs H Q E ∨ sp2 vs H Q E) : FnOk P w K mg base CX k f fd ps sp :=
  ⟨fun vs H Q E z => (h vs H Q E z).elim (F1.len vs H Q E) (F2.len vs H Q E), fun A outer s H args us vs Q E a b c d z => (h vs H Q E z).elim (F1.run A outer s H args us vs Q E a b c d) (F2.run A outer s H args us vs Q E a b c d)⟩
/-- the least number for this window -/
noncomputable def lwF (b : Book) (W : Nat) : Nat := leastM b (Classical.choose (last_ex b W))
theorem lwF_eq {b : Book} {W : Nat} {res : List (Option Int)} {fin : List Nat} (h : LastM b W res fin) : leastM b res = lwF b W := by
  obtain ⟨fin', h'⟩ := Classical.choose_spec (last_ex b W)
  unfold lwF
  rw [last_fun h h']
theorem lwF_le (b : Book) (W : Nat) : lwF b W ≤ 3 := by
  unfold lwF leastM
  split
  · omega
  · split
    · omega
    · split <;> omega
/-- the window u, and the least number x for it -/
def WinR (b : Book) (u x : V) : Prop := (u = .non ∧ x = oN (leastN b)) ∨ ∃ W : Nat, u = .int W ∧ 1 ≤ W ∧ x = nV (lwF b W)
theorem winR_ex {b : Book} {u : V} (h : u = .non ∨ ∃ W : Nat, u = .int W ∧ 1 ≤ W) : ∃ x, WinR b u x := by
  rcases h with rfl | ⟨W, rfl, hW⟩
  · exact ⟨_, .inl ⟨rfl, rfl⟩⟩
  · exact ⟨_, .inr ⟨W, rfl, hW, rfl⟩⟩
def sp_winA (K : PySem.W.Frag) : Sp := fun vs H Q _ => ∃ (v u x : V) (b : Book), vs = [v, u] ∧ BkV K H v b ∧ OkB b ∧ WinR b u x ∧ ∀ H', Ext [] H H' → Q x H'

def sp_least_forN (K : PySem.W.Frag) : Sp := fun vs H Q _ => ∃ (v : V) (b : Book), vs = [v, .non] ∧ BkV K H v b ∧ OkB b ∧ ∀ (H' : Hp), Ext [] H H' → Q (oN (leastN b)) H'
theorem okN_least_for (T : Tx K mg) : FnOk P w K mg base CX0 6 T.least_for.f T.least_for.fd ["book", "window"] (sp_least_forN K) := by
  refine T.least_for.F.ok sc_least_for (fun vs H Q E h => ?_) (fun cdv A outer s H vs Q E hr h => ?_)
  · obtain ⟨v, b, rfl, _⟩ := h; rfl
  · obtain ⟨v, b, rfl, hb, ok, q⟩ := h
    have fb := ok.toFormB
    obtain ⟨a, ls, rfl, ha, hls⟩ := id hb
    obtain ⟨u, hu, c, ps, rfl, hc, hps⟩ := Paired.get hls (mvs_lt (b := b) (s := 0) fb.one)
    unfold leastN at q
    refine ⟨_, (pss_cons (ps_if (pt_not (pt_truth (pe_ix ix_tup (pv 0) pe_int (fun _ _ => rfl)) (by intro _; rfl)))
        (pss_one (ps_ret pe_int))
        pss_nil)
      (pss_cons (ps_if (pt_not (pt_truth (pe_call (ok_fork_states T) (hr.mono (by decide)) (by rfl) T.fork_states.g T.fork_states.F.kp T.fork_states.b .nil pass0 (pa_cons (pv 0) pa_nil)) (by intro _; rfl)))
        (pss_one (ps_ret pe_int))
        pss_nil)
      (pss_cons (ps_if (pt_cmpR op_isN (pv 1) pe_non (nomark _))
        (pss_one (ps_ret (pe_call (ok_least_free T) (hr.mono (by decide)) (by rfl) T.least_free.g T.least_free.F.kp T.least_free.b .nil pass0 (pa_cons (pv 0) pa_nil))))
        pss_nil)
      (pss_cons ps_never
      (pss_one ps_never))))), ?_⟩
    refine ⟨_, rfl, a, _, _, _, rfl, rfl, ha, atI_nat (j := 0) hu, _, .inr (.inl ⟨_, hc.sq, rfl⟩), ?_⟩
    show (if (!(!(ps.map V.ref).isEmpty)) = true then _ else _)
    have em : (ps.map V.ref).isEmpty = (mvs b 0).isEmpty := by
      have plen := Paired.len hps
      cases ps <;> cases h : mvs b 0 <;> rw [h] at plen <;> simp at plen <;> rfl
    rw [em, Bool.not_not]
    refine ifB (fun z => ?_) (fun z => ?_)
    · have z : mvs b 0 = [] := List.isEmpty_iff.mp z
      rw [if_pos z] at q
      exact q _ .refl
    · have z : mvs b 0 ≠ [] := fun y => by rw [y] at z; cases z
      rw [if_neg z] at q
      refine ⟨_, rfl, .ref a, b, rfl, hb, fb.eight, fun t H1 ht e1 => ⟨_, .inr (.inl ⟨_, ht, rfl⟩), ?_⟩⟩
      show (if (!(!((forksM b).map nV).isEmpty)) = true then _ else _)
      have em : ((forksM b).map nV).isEmpty = (forksM b).isEmpty := by cases forksM b <;> rfl
      rw [em, Bool.not_not]
      refine ifB (fun y => ?_) (fun y => ?_)
      · have y : forksM b = [] := List.isEmpty_iff.mp y
        rw [if_pos y] at q
        exact q _ e1
      · have y : forksM b ≠ [] := fun x => by rw [x] at y; cases y
        rw [if_neg y] at q
        refine ⟨_, rfl, rfl, _, rfl, ?_⟩
        rw [decide_eq_true (show V.non = V.non from rfl)]
        exact iteT ⟨_, rfl, .ref a, b, rfl, hb.ext0 e1, ok, y, fun H' e => q H' (e1.trans e)⟩
theorem okA_least_for (T : Tx K mg) : FnOk P w K mg base CX0 6 T.least_for.f T.least_for.fd ["book", "window"] (sp_winA K) :=
  FnOk.or (ok_least_for T) (okN_least_for T) fun vs H Q E ⟨v, u, x, b, e, hb, ok, hw, q⟩ => by
    rcases hw with ⟨rfl, rfl⟩ | ⟨W, rfl, hW, rfl⟩
    · exact .inr ⟨v, b, e, hb, ok, q⟩
    · exact .inl ⟨v, b, W, e, hb, ok.toFormB, hW, fun res fin H' hL e => by rw [lwF_eq hL]; exact q H' e⟩

theorem okA_least_wires (T : Tx K mg) : FnOk P w K mg base CX0 7 T.least_wires.f T.least_wires.fd ["book", "window"] (sp_winA K) := by
  refine T.least_wires.F.ok sc_least_wires (fun vs H Q E h => ?_) (fun cdv A outer s H vs Q E hr h => ?_)
  · obtain ⟨v, u, x, b, rfl, _⟩ := h; rfl
  · obtain ⟨v, u, x, b, rfl, hb, ok, hw, q⟩ := h
    refine ⟨_, (pss_cons (ps_expr (pe_call (ok_made_book T) (hr.mono (by decide)) (by rfl) T.made_book.g T.made_book.F.kp T.made_book.b .nil pass0 (pa_cons (pv 0) pa_nil)))
      (pss_cons (ps_expr (pe_call (okA_made_window T) (hr.mono (by decide)) (by rfl) T.made_window.g T.made_window.F.kp T.made_window.b .nil pass0 (pa_cons (pv 1) pa_nil)))
      (pss_one (ps_ret (pe_call (okA_least_for T) (hr.mono (by decide)) (by rfl) T.least_for.g T.least_for.F.kp T.least_for.b .nil pass0 (pa_cons (pv 0) (pa_cons (pv 1) pa_nil))))))), ?_⟩
    refine ⟨_, rfl, v, b, rfl, hb, ok, fun H1 e1 => ?_⟩
    have hu : u = .non ∨ ∃ i : Int, u = .int i ∧ 1 ≤ i := by
      rcases hw with ⟨rfl, _⟩ | ⟨W, rfl, hW, _⟩
      · exact .inl rfl
      · exact .inr ⟨W, rfl, by omega⟩
    exact ⟨_, rfl, u, rfl, hu, _, rfl, _, rfl, v, u, x, b, rfl, hb.ext0 e1, ok, hw, fun H' e => q H' (e1.trans e)⟩
/-- the least numbers for the windows 1 to 9 -/
noncomputable def nineL (b : Book) : List Nat := (List.range 9).map fun i => lwF b (i + 1)
theorem sc_verdict : FnScope ["book", "window"] ["book"] (defScope s_verdict) := ⟨rfl, rfl, rfl, by decide +kernel, rfl, by decide +kernel, by decide +kernel⟩
def sp_verdict (K : PySem.W.Frag) : Sp := fun vs H Q _ => ∃ (v : V) (b : Book), vs = [v] ∧ BkV K H v b ∧ OkB b ∧ ∀ (t t1 : Addr) (H' : Hp), SqT K H' t [.ref t1, oN (leastN b)] → SqT K H' t1 ((nineL b).map nV) → Ext [] H H' → Q (.ref t) H'
theorem ok_verdict (T : Tx K mg) : FnOk P w K mg base CX0 7 T.verdict.f T.verdict.fd ["book"] (sp_verdict K) := by
  refine T.verdict.F.ok sc_verdict (fun vs H Q E h => ?_) (fun cdv A outer s H vs Q E hr h => ?_)
  · obtain ⟨v, b, rfl, _⟩ := h; rfl
  · obtain ⟨v, b, rfl, hb, ok, q⟩ := h
    refine ⟨_, (pss_cons (ps_expr (pe_call (ok_made_book T) (hr.mono (by decide)) (by rfl) T.made_book.g T.made_book.F.kp T.made_book.b .nil pass0 (pa_cons (pv 0) pa_nil)))
      (pss_one (ps_ret (pe_tup (pa_cons (pe_callTy call_tupZ (by rfl) T.n_tuple (by decide +kernel) (pa_cons (pe_lc (own := [("window", 1)]) rfl sc_verdict.nd (pi_range2 (by rfl) T.n_range (pa_cons pe_int (pa_cons (pe_op op_add (pe_glob (v := .int 9) (by rfl) T.c_LAST_WINDOW.choose_spec ⟨_, rfl⟩) pe_int) pa_nil))) (blkOk_by (own := [("window", 1)]) (N := ["book", "window"]) (sc := defScope s_verdict) (by decide +kernel)) (fun _ _ _ _ _ => (pg_name (i := 1) sc_verdict.nd rfl (.inl rfl))) (fun _ _ _ _ _ => pts_nil) (fun _ _ _ _ _ => (pe_call (okA_least_for T) (hr.mono (by decide)) (by rfl) T.least_for.g T.least_for.F.kp T.least_for.b .nil pass0 (pa_cons (pv 0) (pa_cons (pv 1) pa_nil))))) pa_nil)) (pa_cons (pe_call (okA_least_for T) (hr.mono (by decide)) (by rfl) T.least_for.g T.least_for.F.kp T.least_for.b .nil pass0 (pa_cons (pv 0) (pa_cons pe_non pa_nil))) pa_nil)))))), ?_⟩
    refine ⟨_, rfl, v, b, rfl, hb, ok, fun H1 e1 => ?_⟩
    refine ⟨_, _, rfl, rfl, 1, 10, rfl, ⟨by decide, by decide, by decide, by decide⟩, fun D hD => ?_⟩
    refine lc_range (lo := 1) (n := 9) (fun i H' => H' D = some (.lst (((List.range i).map fun i => lwF b (i + 1)).map nV)) ∧ Ext [] H1 H') ⟨upd_same, .new hD⟩ ?_ ?_
    · rintro m H' hm ⟨hX, e⟩
      have em : (1 : Int) + (m : Int) = ((m + 1 : Nat) : Int) := by omega
      rw [em]
      refine ⟨rfl, yes ?_⟩
      refine ⟨_, rfl, _, rfl, v, _, _, b, rfl, hb.ext0 (e1.trans e), ok, .inr ⟨m + 1, rfl, by omega, rfl⟩, fun H2 e2 => ?_⟩
      refine ⟨_, e2.at hX (by simp), ?_, ?_, (e.trans e2).put hD⟩
      · rw [List.length_map, List.length_map, List.length_range]
        exact small1000 (by omega)
      · rw [upd_same, List.range_succ, List.map_append, List.map_append]
        rfl
    · rintro H2 ⟨hX, e2⟩
      have hX : H2 D = some (.lst ((nineL b).map nV)) := hX
      refine ⟨D, _, rfl, .of hX, fun t1 H3 ht1 hH3 => ?_⟩
      obtain ⟨o, _, rfl⟩ := hH3
      have e3 : Ext [] H2 (upd H2 t1 (.frz o (.tup ((nineL b).map nV)))) := .new ht1
      refine ⟨_, rfl, v, .non, _, b, rfl, hb.ext0 ((e1.trans e2).trans e3), ok, .inl ⟨rfl, rfl⟩, fun H4 e4 => ⟨(by show 2 ≤ sizeLine; decide), fun t ht => ?_⟩⟩
      have e5 : Ext [] H4 (upd H4 t (.tup [.ref t1, oN (leastN b)])) := .new ht
      exact q t t1 _ (.of upd_same) ((e4.trans e5).tup Lsts.nil (.inl (.inr ⟨o, upd_same⟩))) ((((e1.trans e2).trans e3).trans e4).trans e5)
theorem sc_law_win_least : FnScope ["book", "window"] ["book", "window"] (defScope s_law_win_least) := ⟨rfl, rfl, rfl, by decide +kernel, rfl, by decide +kernel, by decide +kernel⟩
theorem ok_law_win_least (T : Tx K mg) : FnOk P w K mg base CX0 5 T.law_win_least.f T.law_win_least.fd ["book", "window"] (sp_winA K) := by
  refine T.law_win_least.F.ok sc_law_win_least (fun vs H Q E h => ?_) (fun cdv A outer s H vs Q E hr h => ?_)
  · obtain ⟨v, u, x, b, rfl, _⟩ := h; rfl
  · obtain ⟨v, y, x, b, rfl, hb, ok, hw, q⟩ := h
    have fb := ok.toFormB
    obtain ⟨a, ls, rfl, ha, hls⟩ := id hb
    obtain ⟨u, hu, c, ps, rfl, hc, hps⟩ := Paired.get hls (mvs_lt (b := b) (s := 0) fb.one)
    refine ⟨_, (pss_cons (ps_if (pt_cmpR (op_eqD (hr.units)) (pe_ix ix_tup (pv 0) pe_int (fun _ _ => rfl)) (pe_tup pa_nil) (nomark _))
        (pss_one (ps_ret pe_int))
        pss_nil)
      (pss_cons (ps_if (pt_cmpR (op_eqD (hr.units)) (pe_call (ok_law_win_forks T) (hr.mono (by decide)) (by rfl) T.law_win_forks.g T.law_win_forks.F.kp T.law_win_forks.b .nil pass0 (pa_cons (pv 0) pa_nil)) (pe_lst pa_nil) (nomark _))
        (pss_one (ps_ret pe_int))
        pss_nil)
      (pss_cons (ps_if (pt_cmpR op_isN (pv 1) pe_non (nomark _))
        (pss_one (ps_ret (pe_call (ok_law_win_free T) (hr.mono (by decide)) (by rfl) T.law_win_free.g T.law_win_free.F.kp T.law_win_free.b .nil pass0 (pa_cons (pv 0) pa_nil))))
        pss_nil)
      (pss_one (ps_ret (pe_mid (pe_ifExp (pt_cmpR op_in_seq (pe_un un_neg pe_int) (pe_call (ok_law_win_ranks T) (hr.mono (by decide)) (by rfl) T.law_win_ranks.g T.law_win_ranks.F.kp T.law_win_ranks.b .nil pass0 (pa_cons (pv 0) (pa_cons (pv 1) pa_nil))) (by rfl)) pe_int pe_int))))))), ?_⟩
    refine ⟨_, rfl, a, _, _, _, rfl, rfl, ha, atI_nat (j := 0) hu, Nat.zero_le _, fun z hz => ?_⟩
    have x0 : Ext [] H (upd H z (.tup [])) := .new hz
    have hps' : Paired (MvV K (upd H z (.tup []))) ps (mvs b 0) := Paired.imp hps fun _ _ q => q.ext0 x0
    refine ⟨_, _, .tup (x0.tz Lsts.nil hc).sq (dp_mvs hps'), .tup (.of upd_same) .nil, shaped_mvsT _, by decide, _, rfl, ?_⟩
    rw [eqv_mvs_nilT]
    have lw : ∀ W, lwF b W = if mvs b 0 = [] then 0 else if forksM b = [] then 1 else if lastL b (Classical.choose (last_ex b W)) = [] then 2 else 3 := fun W => rfl
    by_cases hm : mvs b 0 = []
    · rw [decide_eq_true hm]
      refine iteT ?_
      have hx : x = .int 0 := by
        rcases hw with ⟨_, rfl⟩ | ⟨W, _, _, rfl⟩
        · unfold leastN
          rw [if_pos hm]
          rfl
        · rw [lw, if_pos hm]
          rfl
      rw [← hx]
      exact q _ x0
    · rw [decide_eq_false hm]
      refine iteF ?_
      refine ⟨_, rfl, .ref a, b, rfl, hb.ext0 x0, fb, fun t H1 ht e1 _ => ⟨Nat.zero_le _, fun z2 hz2 => ?_⟩⟩
      have x2 : Ext [] H1 (upd H1 z2 (.lst [])) := .new hz2
      have ht2 := x2.at ht (by simp)
      rw [map_nV_int] at ht2
      refine ⟨_, _, .lst (.of ht2) (dp_ints _), .lst (.of upd_same) .nil, shaped_ints _, by decide, _, rfl, ?_⟩
      have eb : decide ((forksM b).map (fun n : Nat => (n : Int)) = []) = decide (forksM b = []) := decide_eq_decide.mpr List.map_eq_nil_iff
      rw [eqv_nil, eb]
      have f2 := (x0.trans e1).trans x2
      generalize upd H1 z2 (.lst []) = H2 at *
      by_cases hf : forksM b = []
      · rw [decide_eq_true hf]
        refine iteT ?_
        have hx : x = .int 1 := by
          rcases hw with ⟨_, rfl⟩ | ⟨W, _, _, rfl⟩
          · unfold leastN
            rw [if_neg hm, if_pos hf]
            rfl
          · rw [lw, if_neg hm, if_pos hf]
            rfl
        rw [← hx]
        exact q _ f2
      · rw [decide_eq_false hf]
        refine iteF ?_
        rcases hw with ⟨rfl, rfl⟩ | ⟨W, rfl, hW, rfl⟩
        · refine ⟨_, rfl, rfl, _, rfl, ?_⟩
          rw [decide_eq_true (show V.non = V.non from rfl)]
          refine iteT ⟨_, rfl, .ref a, b, rfl, hb.ext0 f2, ok, hf, fun H' e => ?_⟩
          have hx : leastN b = freeM b := by
            unfold leastN
            rw [if_neg hm, if_neg hf]
          rw [← hx]
          exact q H' (f2.trans e)
        · refine ⟨_, rfl, rfl, _, rfl, ?_⟩
          rw [decide_eq_false (show ¬ V.int (W : Int) = V.non from fun z => nomatch z)]
          refine iteF ⟨fun v H' => Q v H', ?_, fun v H' h => h⟩
          refine ⟨1, rfl, _, rfl, _, rfl, .ref a, b, W, rfl, hb.ext0 f2, fb, hW, fun res fin tr H3 hL htr e3 => ?_⟩
          refine ⟨tr, _, rfl, .inl (.of htr), rfl, flat_oV _, _, rfl, ?_⟩
          show (if inV (V.int (-1)) (res.map oV) = true then _ else _)
          rw [in_last (last_len hL)]
          have e := lwF_eq hL
          unfold leastM at e
          rw [if_neg hm, if_neg hf] at e
          have q := q H3 (f2.trans e3)
          rw [← e] at q
          by_cases hl : lastL b res = []
          · rw [if_pos hl] at q
            rw [decide_eq_true hl]
            exact iteF q
          · rw [if_neg hl] at q
            rw [decide_eq_false hl]
            exact iteT q
end
end Nv
set_option Elab.async false
set_option linter.all false
set_option maxRecDepth 100000
namespace Nv
open PySem PySem.Spec PyProof.Rows L2
section
variable {P : Program} {w : World} {K : PySem.W.Frag} {mg : Str → Option Value} {base : Heap}
/-! ### are the numbers right -/
def nD : Option Nat → PyData
  | none => .none
  | some n => .int (n : Int)
theorem dp_nD {K : PySem.W.Frag} {H : Hp} (o : Option Nat) : Dp K H (oN o) (nD o) := by
  cases o with
  | none => exact .non
  | some n => exact .int _
theorem show_nD {o : Option Nat} (h : ∀ n, o = some n → n ≤ 9) : ShowOk (nD o) := by
  cases o with
  | none => exact ⟨rfl, rfl, by decide, Nat.le_of_lt (small1000 (by decide +kernel))⟩
  | some n =>
    have h9 := h n rfl
    have : n = 0 ∨ n = 1 ∨ n = 2 ∨ n = 3 ∨ n = 4 ∨ n = 5 ∨ n = 6 ∨ n = 7 ∨ n = 8 ∨ n = 9 := by omega
    rcases this with rfl | rfl | rfl | rfl | rfl | rfl | rfl | rfl | rfl | rfl <;> exact ⟨by decide +kernel, rfl, by decide +kernel, Nat.le_of_lt (small1000 (by decide +kernel))⟩
theorem leastN_le {b : Book} {n : Nat} (h : leastN b = some n) : n ≤ 3 := by
  unfold leastN at h
  split at h
  · cases h; omega
  · split at h
    · cases h; omega
    · unfold freeM at h
      split at h
      · split at h <;> cases h <;> omega
      · cases h
/-- what is shown of the least number -/
theorem winR_data {b : Book} {u x : V} (h : WinR b u x) : ∃ o : Option Nat, x = oN o ∧ ∀ n, o = some n → n ≤ 3 := by
  rcases h with ⟨_, rfl⟩ | ⟨W, _, _, rfl⟩
  · exact ⟨_, rfl, fun n h => leastN_le h⟩
  · exact ⟨some (lwF b W), rfl, fun n h => by cases h; exact lwF_le b W⟩
theorem show_pair {l : List Nat} (hl : ∀ n ∈ l, n ≤ 3) (h9 : l.length ≤ 9) {o : Option Nat} (ho : ∀ n, o = some n → n ≤ 3) : ShowOk (.tuple [.tuple ((someN l).map oD), nD o]) := by
  have sm : Small (someN l) := small_nats fun n hn => by have := hl n hn; omega
  have leaf : PyData.leavesShort 8 (nD o) = true ∧ PyData.bulk (nD o) = 0 ∧ (nD o).showable = true ∧ (nD o).hasDict = false ∧ (nD o).depth = 0 := by
    cases o with
    | none => exact ⟨rfl, rfl, rfl, rfl, rfl⟩
    | some n =>
      have h3 := ho n rfl
      refine ⟨int_short (by omega) (by omega), rfl, ?_, rfl, rfl⟩
      exact decide_eq_true (Nat.lt_of_le_of_lt (Nat.log2_le_self _) (by omega))
  obtain ⟨a1, a2, a3, a4, a5⟩ := leaf
  have b1 := o_short (someN l) sm
  have b2 := o_bulk (someN l)
  have b3 := o_show (someN l) sm
  have b4 := o_nodict (someN l)
  have b5 := o_depth (someN l)
  have sl : (someN l).length ≤ 9 := by unfold someN; rw [List.length_map]; exact h9
  refine show_mk (n := 20) ?_ ?_ ?_ ?_ ?_ (by omega)
  · simp [PyData.showable, PyData.showableAll, b3, a3]
  · simp [PyData.hasDict, PyData.hasDictAll, b4, a4]
  · simp [PyData.depth, PyData.depthAll, b5, a5]
  · simp [PyData.leavesShort, PyData.leavesShortAll, b1, a1]
  · simp only [PyData.bulk, PyData.bulkAll, b2, a2]
    omega
theorem nine_le (b : Book) : (∀ n ∈ nineL b, n ≤ 3) ∧ (nineL b).length ≤ 9 := by
  refine ⟨fun n hn => ?_, by unfold nineL; rw [List.length_map, List.length_range]; exact Nat.le_refl _⟩
  obtain ⟨i, _, rfl⟩ := List.mem_map.mp hn
  exact lwF_le _ _
theorem nine_at {b : Book} {i : Nat} (h : i < 9) : (nineL b)[i]? = some (lwF b (i + 1)) := by
  unfold nineL
  rw [List.getElem?_map, List.getElem?_range h]
  rfl
theorem sc_law_numbers_right : FnScope ["pool", "book", "window", "due"] ["pool", "book"] (defScope s_law_numbers_right) := ⟨rfl, rfl, rfl, by decide +kernel, rfl, by decide +kernel, by decide +kernel⟩
def sp_law_numbers_right (K : PySem.W.Frag) : Sp := fun vs H Q _ => ∃ (p l : Addr) (v : V) (b : Book), vs = [.ref p, v] ∧ PoolAt H p l ∧ BkV K H v b ∧ OkB b ∧ ∀ H', PoolAt H' p l → Ext [p, l] H H' → Q (.bl true) H'
theorem ok_law_numbers_right (T : Tx K mg) : FnG P w K mg base CX0 8 T.law_numbers_right.f T.law_numbers_right.fd ["pool", "book"] (sp_law_numbers_right K) := by
  refine FunG.ok T.law_numbers_right.F sc_law_numbers_right (fun vs H Q E h => ?_) (fun cdv A outer s H vs Q E hG hr h => ?_)
  · obtain ⟨p, l, v, b, rfl, _⟩ := h; rfl
  · obtain ⟨p, l, v, b, rfl, P0, hb0, ok, q⟩ := h
    refine ⟨_, (pss_cons (ps_for PassesOwn.never rfl (pi_list (pe_lst (pa_cons pe_int (pa_cons pe_int (pa_cons pe_int (pa_cons (pe_op op_add pe_int (pe_call (ok_law_draw T) (hr.mono (by decide)) (by rfl) T.law_draw.g T.law_draw.F.kp T.law_draw.b .nil pass0 (pa_cons (pv 0) (pa_cons pe_int pa_nil)))) (pa_cons (pe_op op_add (pe_op op_pow pe_int pe_int) (pe_call (ok_law_draw T) (hr.mono (by decide)) (by rfl) T.law_draw.g T.law_draw.F.kp T.law_draw.b .nil pass0 (pa_cons (pv 0) (pa_cons pe_int pa_nil)))) (pa_cons pe_non pa_nil)))))))) (pg_name (i := 2) sc_law_numbers_right.nd rfl (.inl rfl))
        (pss_one (ps_if (pt_cmpR op_ne (pe_callB (call_reprA hr.units hG) (by rfl) T.n_repr (by decide +kernel) (pa_cons (pe_call (okA_least_wires T) (hr.mono (by decide)) (by rfl) T.least_wires.g T.least_wires.F.kp T.least_wires.b .nil pass0 (pa_cons (pv 1) (pa_cons (pv 2) pa_nil))) pa_nil)) (pe_callB (call_reprA hr.units hG) (by rfl) T.n_repr (by decide +kernel) (pa_cons (pe_call (ok_law_win_least T) (hr.mono (by decide)) (by rfl) T.law_win_least.g T.law_win_least.F.kp T.law_win_least.b .nil pass0 (pa_cons (pv 1) (pa_cons (pv 2) pa_nil))) pa_nil)) (nomark _))
          (pss_one (ps_ret pe_bl))
          pss_nil)))
      (pss_cons (ps_setLc (i := 3) (own := [("window", 2)]) rfl sc_law_numbers_right.nd rfl rfl (sw_true rfl rfl rfl (by decide +kernel)) (pi_range2 (by rfl) T.n_range (pa_cons pe_int (pa_cons pe_int pa_nil))) (blkOk_by (own := [("window", 2)]) (N := ["pool", "book", "window", "due"]) (sc := defScope s_law_numbers_right) (by decide +kernel)) (fun _ _ _ _ _ => (pg_name (i := 2) sc_law_numbers_right.nd rfl (.inl rfl))) (fun _ _ _ _ _ => pts_nil) (fun _ _ _ _ _ => (pe_call (ok_law_win_least T) (hr.mono (by decide)) (by rfl) T.law_win_least.g T.law_win_least.F.kp T.law_win_least.b .nil pass0 (pa_cons (pv 1) (pa_cons (pv 2) pa_nil)))))
      (pss_cons (ps_if (pt_cmpR op_ne (pe_callB (call_reprA hr.units hG) (by rfl) T.n_repr (by decide +kernel) (pa_cons (pe_call (ok_verdict T) (hr.mono (by decide)) (by rfl) T.verdict.g T.verdict.F.kp T.verdict.b .nil pass0 (pa_cons (pv 1) pa_nil)) pa_nil)) (pe_callB (call_reprA hr.units hG) (by rfl) T.n_repr (by decide +kernel) (pa_cons (pe_tup (pa_cons (pe_callTy call_tupZ (by rfl) T.n_tuple (by decide +kernel) (pa_cons (pv 3) pa_nil)) (pa_cons (pe_call (ok_law_win_least T) (hr.mono (by decide)) (by rfl) T.law_win_least.g T.law_win_least.F.kp T.law_win_least.b .nil pass0 (pa_cons (pv 1) (pa_cons pe_non pa_nil))) pa_nil))) pa_nil)) (nomark _))
        (pss_one (ps_ret pe_bl))
        pss_nil)
      (pss_one (ps_ret (pe_cmpR op_eq (pe_callB (call_reprA hr.units hG) (by rfl) T.n_repr (by decide +kernel) (pa_cons (pe_call (ok_from_window T) (hr.mono (by decide)) (by rfl) T.from_window.g T.from_window.F.kp T.from_window.b .nil pass0 (pa_cons (pv 1) pa_nil)) pa_nil)) (pe_callB (call_reprA hr.units hG) (by rfl) T.n_repr (by decide +kernel) (pa_cons (pe_mid (pe_ifExp (pt_cmpR op_in_seq pe_int (pv 3) (by rfl)) (pe_op op_add (pe_bm PySem.F.plainAttrs_list PySem.F.slot_list_index PySem.F.type_list_index mt_index (pv 3) (pa_cons pe_int pa_nil)) pe_int) pe_non)) pa_nil)) (nomark _))))))), ?_⟩
    refine ⟨_, rfl, p, l, 9, rfl, P0, by decide, by decide, fun r1 H1 r10 r19 P1 e1 => ⟨_, _, rfl, rfl, 10, 18, rfl, rfl, ⟨by decide, by decide, by decide⟩, _, rfl, p, l, 9, rfl, P1, by decide, by decide, fun r2 H2 r20 r29 P2 e2 => ⟨_, _, rfl, rfl, (by show 6 ≤ sizeLine; decide), fun t ht => ?_⟩⟩⟩
    have hb2 := (hb0.ext e1 P0.lsts).ext e2 P1.lsts
    have o2 := e1.trans e2
    have hx : ∀ x ∈ [V.int 1, .int 2, .int 3, .int (1 + r1), .int (10 ^ 18 + r2), .non], x = .non ∨ ∃ W : Nat, x = .int W ∧ 1 ≤ W := by
      have mk : ∀ i : Int, 1 ≤ i → V.int i = .non ∨ ∃ W : Nat, V.int i = .int W ∧ 1 ≤ W := fun i h => .inr ⟨i.toNat, by rw [Int.toNat_of_nonneg (by omega)], by omega⟩
      intro x hx
      simp only [List.mem_cons, List.not_mem_nil, or_false] at hx
      rcases hx with rfl | rfl | rfl | rfl | rfl | rfl
      · exact mk _ (by omega)
      · exact mk _ (by omega)
      · exact mk _ (by omega)
      · exact mk _ (by omega)
      · exact mk _ (by omega)
      · exact .inl rfl
    have ht' : upd H2 t (.lst [V.int 1, .int 2, .int 3, .int (1 + r1), .int (10 ^ 18 + r2), .non]) t = some (.lst [V.int 1, .int 2, .int 3, .int (1 + r1), .int (10 ^ 18 + r2), .non]) := upd_same
    have e3 : Ext [] H2 (upd H2 t (.lst [V.int 1, .int 2, .int 3, .int (1 + r1), .int (10 ^ 18 + r2), .non])) := .new ht
    refine ⟨t, rfl, ⟨_, .of upd_same⟩, ?_⟩
    refine for_list (K := K) (a := t) (xs := [V.int 1, .int 2, .int 3, .int (1 + r1), .int (10 ^ 18 + r2), .non]) (fun j σ H' => ∃ y2 y3 : Option V, σ = [some (.ref p), some v, y2, y3] ∧ Ext [] (upd H2 t (.lst [V.int 1, .int 2, .int 3, .int (1 + r1), .int (10 ^ 18 + r2), .non])) H')
      ⟨_, _, rfl, .refl⟩ (fun j σ H' _ ⟨_, _, _, e⟩ => .of (e.at ht' (by simp))) ?_ ?_
    · rintro j u σ H' hv ⟨y2, y3, rfl, e⟩
      obtain ⟨x, hw⟩ := winR_ex (b := b) (hx u (List.mem_of_getElem? hv))
      obtain ⟨o, rfl, ho⟩ := winR_data hw
      have sh : ShowOk (nD o) := show_nD fun n hn => by have := ho n hn; omega
      refine ⟨_, rfl, _, rfl, v, u, _, b, rfl, hb2.ext0 (e3.trans e), ok, hw, fun H3 e4 => ⟨_, _, rfl, dp_nD o, sh, ?_⟩⟩
      refine ⟨_, rfl, _, rfl, v, u, _, b, rfl, hb2.ext0 (e3.trans (e.trans e4)), ok, hw, fun H4 e5 => ⟨_, _, rfl, dp_nD o, sh, rfl, _, rfl, ?_⟩⟩
      rw [str_ne]
      exact iteF ⟨_, _, rfl, (e.trans e4).trans e5⟩
    · rintro σ H3 ⟨y2, y3, rfl, e4⟩
      have e4 := e3.trans e4
      have hb3 := hb2.ext0 e4
      -- due
      refine ⟨1, 10, rfl, ⟨by decide, by decide, by decide, by decide⟩, fun D hD => ?_⟩
      refine lc_range (lo := 1) (n := 9) (fun i H' => H' D = some (.lst (((List.range i).map fun i => lwF b (i + 1)).map nV)) ∧ Ext [] H3 H') ⟨upd_same, .new hD⟩ ?_ ?_
      · rintro m H' hm ⟨hX, e⟩
        have em : (1 : Int) + (m : Int) = ((m + 1 : Nat) : Int) := by omega
        rw [em]
        refine ⟨rfl, yes ?_⟩
        refine ⟨_, rfl, _, rfl, v, _, _, b, rfl, hb3.ext0 e, ok, .inr ⟨m + 1, rfl, by omega, rfl⟩, fun H2 e2 => ?_⟩
        refine ⟨_, e2.at hX (by simp), ?_, ?_, (e.trans e2).put hD⟩
        · rw [List.length_map, List.length_map, List.length_range]
          exact small1000 (by omega)
        · rw [upd_same, List.range_succ, List.map_append, List.map_append]
          rfl
      · rintro H5 ⟨hX, e5⟩
        have hX : H5 D = some (.lst ((nineL b).map nV)) := hX
        have hb5 := hb3.ext0 e5
        have shp : ShowOk (.tuple [.tuple ((someN (nineL b)).map oD), nD (leastN b)]) := show_pair (nine_le b).1 (nine_le b).2 fun n h => leastN_le h
        refine ⟨_, rfl, v, b, rfl, hb5, ok, fun t6 t6' H6 ht6 ht6' e6 => ⟨_, _, rfl, .tup ht6 (.cons (.tup ht6' (dp_nats _)) (.cons (dp_nD _) .nil)), shp, ?_⟩⟩
        refine ⟨_, rfl, D, _, rfl, .of (e6.at hX (by simp)), fun t7 H7 ht7 hH7 => ?_⟩
        obtain ⟨o7, _, rfl⟩ := hH7
        have e7 : Ext [] H6 (upd H6 t7 (.frz o7 (.tup ((nineL b).map nV)))) := .new ht7
        refine ⟨_, rfl, v, .non, _, b, rfl, hb5.ext0 (e6.trans e7), ok, .inl ⟨rfl, rfl⟩, fun H8 e8 => ⟨(by show 2 ≤ sizeLine; decide), fun t9 ht9 => ?_⟩⟩
        have e9 : Ext [] H8 (upd H8 t9 (.tup [.ref t7, oN (leastN b)])) := .new ht9
        refine ⟨_, _, rfl, .tup (.of upd_same) (.cons (.tup ((e8.trans e9).tup Lsts.nil (.inl (.inr ⟨o7, upd_same⟩))) (dp_nats _)) (.cons (dp_nD _) .nil)), shp, rfl, _, rfl, ?_⟩
        rw [str_ne]
        refine iteF ?_
        have f9 := ((e6.trans e7).trans e8).trans e9
        generalize upd H8 t9 (.tup [.ref t7, oN (leastN b)]) = H9 at *
        -- the first window
        refine ⟨_, rfl, v, b, rfl, hb5.ext0 f9, ok, fun o Ha ho ea => ?_⟩
        have o9 : ∀ n, o = some n → n ≤ 9 := fun n h => by
          subst h
          exact ho.2.1
        refine ⟨_, _, rfl, dp_nD o, show_nD o9, ?_⟩
        have hXa := (f9.trans ea).at hX (by simp)
        refine ⟨fun x H' => x = oN o ∧ H' = Ha, ⟨_, rfl, D, _, rfl, .inl (.of hXa), rfl, flat_nV _, _, rfl, ?_⟩, ?_⟩
        · show (if inV (nV 3) ((nineL b).map nV) = true then _ else _)
          rw [inV_nV]
          cases o with
          | some W =>
            obtain ⟨h1, h9, ⟨res, fin, hL, h3⟩, hno⟩ := ho
            have w3 : lwF b W = 3 := by rw [← lwF_eq hL]; exact h3
            have hat : (nineL b)[W - 1]? = some 3 := by
              rw [nine_at (by omega), show W - 1 + 1 = W by omega, w3]
            rw [decide_eq_true (List.mem_of_getElem? hat)]
            refine iteT ⟨_, rfl, .inl ⟨rfl, _, .of hXa⟩, D, _, _, W - 1, nV 3, rfl, rfl, .of hXa, rfl, flat_nV _, at_map hat, (by rw [show V.int 3 = nV 3 from rfl, eqV_nV]; rfl), fun m z hm hz => ?_, _, _, rfl, rfl, ?_, rfl⟩
            · obtain ⟨n, hn, rfl⟩ := map_at hz
              rw [nine_at (by omega)] at hn
              cases hn
              rw [show V.int 3 = nV 3 from rfl, eqV_nV]
              refine decide_eq_false fun z => ?_
              obtain ⟨res', fin', hL'⟩ := last_ex b (m + 1)
              exact hno (m + 1) (by omega) (by omega) res' fin' hL' (by rw [lwF_eq hL']; exact z)
            · show V.int (((W - 1 : Nat) : Int) + 1) = nV W
              exact congrArg V.int (by omega)
          | none =>
            have : 3 ∉ nineL b := fun z => by
              obtain ⟨i, hi, e⟩ := List.mem_map.mp z
              have hi := List.mem_range.mp hi
              obtain ⟨res', fin', hL'⟩ := last_ex b (i + 1)
              exact ho (i + 1) (by omega) (by omega) res' fin' hL' (by rw [lwF_eq hL']; exact e)
            rw [decide_eq_false this]
            exact iteF ⟨rfl, rfl⟩
        · rintro x H' ⟨rfl, rfl⟩
          refine ⟨_, _, rfl, dp_nD o, show_nD o9, rfl, ?_⟩
          rw [str_eq]
          have f := ((e4.trans e5).trans f9).trans ea
          exact q _ (P2.ext0 f) (o2.trans f.weak)
end
end Nv
set_option Elab.async false
set_option linter.all false
set_option maxRecDepth 100000
namespace Nv
open PySem PySem.Spec PyProof.Rows L2
section
variable {P : Program} {w : World} {K : PySem.W.Frag} {mg : Str → Option Value} {base : Heap}
/-! ### books with some rays -/
theorem sc_law_rayed : FnScope ["pool", "size", "moves", "state", "many", "told", "message"] ["pool"] (defScope s_law_rayed) := ⟨rfl, rfl, rfl, by decide +kernel, rfl, by decide +kernel, by decide +kernel⟩
def sp_law_rayed (K : PySem.W.Frag) : Sp := fun vs H Q _ => ∃ (p l : Addr), vs = [.ref p] ∧ PoolAt H p l ∧ ∀ (b : Book) (v : V) (H' : Hp), OkB b → BkV K H' v b → PoolAt H' p l → Ext [p, l] H H' → Q v H'
theorem LsN.ls0 {K : PySem.W.Frag} {H : Hp} {a : Addr} {ps : List Addr} {s : State} (h1 : H a = some (.lst (ps.map V.ref))) (h2 : Paired (MvV K H) ps s) : LsV K H (.ref a) s := ⟨a, ps, rfl, h1, h2⟩
theorem range_rise (k : Nat) : (List.range k).Pairwise (· < ·) := List.pairwise_lt_range
theorem ok_law_rayed (T : Tx K mg) : FnOk P w K mg base CX0 3 T.law_rayed.f T.law_rayed.fd ["pool"] (sp_law_rayed K) := by
  refine T.law_rayed.F.ok sc_law_rayed (fun vs H Q E h => ?_) (fun cdv A outer s H vs Q E hr h => ?_)
  · obtain ⟨p, l, rfl, _⟩ := h; rfl
  · obtain ⟨p, l, rfl, hP, q⟩ := h
    refine ⟨_, (pss_cons (ps_par (i := 1) (j := 2) (by rfl) sc_law_rayed.nd rfl rfl (by decide) rfl rfl (pa_cons (pe_op op_add pe_int (pe_call (ok_law_draw T) (hr.mono (by decide)) (by rfl) T.law_draw.g T.law_draw.F.kp T.law_draw.b .nil pass0 (pa_cons (pv 0) (pa_cons pe_int pa_nil)))) (pa_cons (pe_lst pa_nil) pa_nil)) (by rfl))
      (pss_cons (ps_for PassesOwn.never rfl (pi_range1 (by rfl) T.n_range (pa_cons (pv 1) pa_nil)) (pg_name (i := 3) sc_law_rayed.nd rfl (.inl rfl))
        (pss_cons (ps_set (i := 4) sc_law_rayed.nd rfl (.inl rfl) (pe_call (ok_law_pick T) (hr.mono (by decide)) (by rfl) T.law_pick.g T.law_pick.F.kp T.law_pick.b .nil pass0 (pa_cons (pv 0) (pa_cons (pe_lst (pa_cons pe_int (pa_cons pe_int (pa_cons pe_int (pa_cons pe_int (pa_cons pe_int pa_nil)))))) pa_nil))))
        (pss_cons (ps_set (i := 5) sc_law_rayed.nd rfl (.inl rfl) (pe_lst pa_nil))
        (pss_cons (ps_for PassesOwn.never rfl (pi_range1 (by rfl) T.n_range (pa_cons (pv 4) pa_nil)) (pg_name (i := 6) sc_law_rayed.nd rfl (.inl rfl))
          (pss_one (ps_expr (pe_bm PySem.F.plainAttrs_list PySem.F.slot_list_append PySem.F.type_list_append mt_append (pv 5) (pa_cons (pe_tup (pa_cons (pv 6) (pa_cons (pe_call (ok_law_pick T) (hr.mono (by decide)) (by rfl) T.law_pick.g T.law_pick.F.kp T.law_pick.b .nil pass0 (pa_cons (pv 0) (pa_cons (pe_lst (pa_cons (pe_op op_add (pv 3) pe_int) (pa_cons (pe_op op_add (pv 3) pe_int) (pa_cons (pv 1) (pa_cons (pe_op op_add (pe_op op_add (pv 1) pe_int) (pe_call (ok_law_draw T) (hr.mono (by decide)) (by rfl) T.law_draw.g T.law_draw.F.kp T.law_draw.b .nil pass0 (pa_cons (pv 0) (pa_cons pe_int pa_nil)))) pa_nil))))) pa_nil))) pa_nil))) pa_nil)))))
        (pss_one (ps_expr (pe_bm PySem.F.plainAttrs_list PySem.F.slot_list_append PySem.F.type_list_append mt_append (pv 2) (pa_cons (pv 5) pa_nil))))))))
      (pss_one (ps_ret (pe_call (ok_law_book_meeting T) (hr.mono (by decide)) (by rfl) T.law_book_meeting.g T.law_book_meeting.F.kp T.law_book_meeting.b .nil pass0 (pa_cons (pe_op op_cat (pv 2) (pe_lst (pa_cons (pe_lst (pa_cons (pe_tup (pa_cons pe_int (pa_cons (pv 1) pa_nil))) pa_nil)) (pa_cons (pe_lst (pa_cons (pe_tup (pa_cons pe_int (pa_cons (pe_op op_add (pv 1) pe_int) pa_nil))) pa_nil)) (pa_cons (pe_mid (pe_ifExp (pt_cmpR op_eq (pe_call (ok_law_draw T) (hr.mono (by decide)) (by rfl) T.law_draw.g T.law_draw.F.kp T.law_draw.b .nil pass0 (pa_cons (pv 0) (pa_cons pe_int pa_nil))) pe_int (nomark _)) (pe_lst (pa_cons (pe_tup (pa_cons pe_int (pa_cons (pe_op op_add (pv 1) pe_int) pa_nil))) pa_nil)) (pe_lst pa_nil))) pa_nil))))) pa_nil)))))), ?_⟩
    refine ⟨_, rfl, p, l, 4, rfl, hP, by decide, by decide, fun r H1 r0 r1 P1 e1 => ⟨_, _, rfl, rfl, Nat.zero_le _, fun mv hmv => ⟨_, _, rfl, ?_⟩⟩⟩
    obtain ⟨n, hn⟩ : ∃ n : Nat, 2 + r = (n : Int) := ⟨(2 + r).toNat, by omega⟩
    have hn2 : 2 ≤ n := by omega
    have hn5 : n ≤ 5 := by omega
    show _
    simp only [hn]
    obtain ⟨mp, ml⟩ := P1.off hmv
    have fmv : H mv = none := e1.free2 hmv (off2 mp ml)
    refine ⟨_, rfl, _, rfl, by omega, by omega, for_range (lo := 0) (n := _) (fun i σ H' => ∃ (vs : List V) (b : Book) (y3 y4 y5 y6 : Option V), σ = [some (.ref p), some (.int n), some (.ref mv), y3, y4, y5, y6] ∧ b.length = i ∧
      H' mv = some (.lst vs) ∧ Paired (LsN K H' [p, l, mv]) vs b ∧ (∀ s ∈ b, StOk (n + 3) s) ∧ PoolAt H' p l ∧ Ext [p, l] H H')
      ⟨[], [], _, _, _, _, rfl, rfl, upd_same, .nil, (fun s z => nomatch z), P1.put mp ml, e1.put' fmv⟩ ?_ ?_⟩
    · rintro i σ H' hi ⟨vs, b, y3, y4, y5, y6, rfl, hbl, hv, hpd, hst, P', e'⟩
      have hi : i < n := by have : ((n : Int)).toNat = n := Int.toNat_natCast _; omega
      simp only [Int.zero_add]
      -- many
      refine ⟨_, rfl, (by show 5 ≤ sizeLine; decide), fun t ht => ?_⟩
      obtain ⟨tp, tl⟩ := P'.off ht
      refine ⟨p, l, t, _, rfl, P'.put tp tl, .of upd_same, tp, tl, (by show 0 < 5; decide), (by show 5 < 1000; decide), fun k v H4 hk P4 e4 => ?_⟩
      obtain ⟨c, rfl, hc3⟩ : ∃ c : Nat, v = .int c ∧ c ≤ 3 := by
        have five : k < 5 := (List.getElem?_eq_some_iff.mp hk).1
        have : k = 0 ∨ k = 1 ∨ k = 2 ∨ k = 3 ∨ k = 4 := by omega
        rcases this with rfl | rfl | rfl | rfl | rfl
        · exact ⟨1, (Option.some.inj hk).symm, by decide⟩
        · exact ⟨1, (Option.some.inj hk).symm, by decide⟩
        · exact ⟨2, (Option.some.inj hk).symm, by decide⟩
        · exact ⟨2, (Option.some.inj hk).symm, by decide⟩
        · exact ⟨3, (Option.some.inj hk).symm, by decide⟩
      have e5 : Ext [p, l] H' H4 := (Ext.weak (.new ht)).trans e4
      have hpd4 : Paired (LsN K H4 [p, l, mv]) vs b := Paired.imp hpd fun _ _ z => z.ext e5 (by simp) P'.lsts
      have hv4 := e5 _ _ (off2 mp ml) hv
      have e6 := e'.trans e5
      clear e5 e4 hk ht P' hv hpd
      -- told
      refine ⟨Nat.zero_le _, fun td htd => ?_⟩
      obtain ⟨tdp, tdl⟩ := P4.off htd
      have tdmv : td ≠ mv := fun z => by rw [z, hv4] at htd; cases htd
      have b0 : Ext [p, l] H4 (upd H4 td (.lst [])) := Ext.weak (.new htd)
      refine ⟨_, rfl, _, rfl, by omega, by omega, ?_⟩
      rw [Int.toNat_natCast]
      refine for_range (lo := 0) (n := c) (fun k σ H' => ∃ (ps : List Addr) (tl : State) (y6 : Option V), σ = [some (.ref p), some (.int n), some (.ref mv), some (.int i), some (.int c), some (.ref td), y6] ∧
          H' td = some (.lst (ps.map V.ref)) ∧ Paired (MvV K H') ps tl ∧ tl.map (·.1) = List.range k ∧ (∀ z ∈ tl, z.2 < n + 3) ∧ PoolAt H' p l ∧ Ext [p, l] H4 H')
          ⟨[], [], _, rfl, upd_same, .nil, rfl, (fun z hz => nomatch hz), P4.put tdp tdl, b0⟩ ?_ ?_
      · rintro k σ H' hk ⟨ps, tl, y6, rfl, htd', hps, hmap, hto, P', e8⟩
        simp only [Int.zero_add]
        have ntd : td ∉ [p, l] := off2 tdp tdl
        refine ⟨_, rfl, .inl ⟨rfl, _, .of htd'⟩, _, rfl, _, rfl, _, rfl, _, _, rfl, rfl, _, rfl, _, _, rfl, rfl, _, rfl, _, rfl, _, _, rfl, rfl, _, rfl, p, l, 2, rfl, P', by decide, by decide, fun r7 H7 r70 r71 P7 e7 => ⟨_, _, rfl, rfl, (by show 4 ≤ sizeLine; decide), fun t2 ht2 => ?_⟩⟩
        obtain ⟨t2p, t2l⟩ := P7.off ht2
        refine ⟨p, l, t2, _, rfl, P7.put t2p t2l, .of upd_same, t2p, t2l, (by show 0 < 4; decide), (by show 4 < 1000; decide), fun k2 v H8 hk2 P8 e9 => ?_⟩
        obtain ⟨u, rfl, hu⟩ : ∃ u : Nat, v = .int u ∧ u < n + 3 := by
          have four : k2 < 4 := (List.getElem?_eq_some_iff.mp hk2).1
          have : k2 = 0 ∨ k2 = 1 ∨ k2 = 2 ∨ k2 = 3 := by omega
          rcases this with rfl | rfl | rfl | rfl
          · exact ⟨i + 1, (Option.some.inj hk2).symm, by omega⟩
          · exact ⟨i + 1, (Option.some.inj hk2).symm, by omega⟩
          · exact ⟨n, (Option.some.inj hk2).symm, by omega⟩
          · exact ⟨n + 1 + r7.toNat, by rw [← Option.some.inj hk2]; exact congrArg V.int (by omega), by omega⟩
        have e10 := (e7.trans (Ext.weak (.new ht2))).trans e9
        have htd8 := e10 _ _ ntd htd'
        have hps8 : Paired (MvV K H8) ps tl := Paired.imp hps fun _ _ z => e10.tup P'.lsts z
        refine ⟨(by show 2 ≤ sizeLine; decide), fun nt' hnt => ?_⟩
        have e11 : Ext [] H8 (upd H8 nt' (.tup [.int k, .int u])) := .new hnt
        have htd9 := e11.at htd8 (by simp)
        obtain ⟨ntp, ntl⟩ := P8.off hnt
        have tll : tl.length = k := by
          have := congrArg List.length hmap
          rwa [List.length_map, List.length_range] at this
        refine ⟨td, _, _, rfl, rfl, htd9, by rw [List.length_map, Paired.len hps]; exact small1000 (by omega), ps ++ [nt'], tl ++ [(k, u)], _, rfl, by rw [upd_same, List.map_append]; rfl, ?_, ?_, fun z hz => ?_, ?_, ?_⟩
        · refine Paired.snoc ?_ (Paired.imp hps8 fun _ _ z => (z.ext0 e11).put htd9)
          exact MvV.put (m := (k, u)) (.of upd_same) htd9
        · rw [List.map_append, hmap, List.range_succ]
          rfl
        · rcases List.mem_append.mp hz with hz | hz
          · exact hto z hz
          · obtain rfl := List.mem_singleton.mp hz
            exact hu
        · exact (P8.put ntp ntl).put tdp tdl
        · exact ((e8.trans e10).trans e11.weak).put' htd
      · rintro σ H7 ⟨ps, tl, y6, rfl, htd7, hps, hmap, hto, P7, e7⟩
        have tll : tl.length = c := by
          have := congrArg List.length hmap
          rwa [List.length_map, List.length_range] at this
        have sd : StOk (n + 3) tl := ⟨by omega, by rw [hmap]; exact range_rise c, fun z hz => by
          have : z.1 ∈ List.range c := by rw [← hmap]; exact List.mem_map.mpr ⟨z, hz, rfl⟩
          have := List.mem_range.mp this
          omega, hto⟩
        have hmv8 := e7 _ _ (off2 mp ml) hv4
        have hpd8 : Paired (LsN K H7 [p, l, mv]) vs b := Paired.imp hpd4 fun _ _ z => z.ext e7 (by simp) P4.lsts
        have l3 : Lsts [mv] H7 := one_lst hmv8
        refine ⟨_, rfl, .inl ⟨rfl, _, .of hmv8⟩, _, rfl, mv, _, _, rfl, rfl, hmv8, by rw [Paired.len hpd8]; exact small1000 (by omega), vs ++ [.ref td], b ++ [tl], _, _, _, _, rfl, by rw [List.length_append, hbl]; rfl, upd_same, ?_, fun s hs => ?_, P7.put mp ml, (e6.trans e7).put' fmv⟩
        · refine Paired.snoc ⟨td, ps, rfl, ?_, by rw [upd_ne tdmv]; exact htd7, Paired.imp hps fun _ _ z => z.put hmv8⟩ (Paired.imp hpd8 fun _ _ z => z.ext (Y := [mv]) (.wr (by simp)) (by simp) l3)
          simp [tdp, tdl, tdmv]
        · rcases List.mem_append.mp hs with hs | hs
          · exact hst s hs
          · obtain rfl := List.mem_singleton.mp hs
            exact sd
    · rintro σ H' ⟨vs, b, y3, y4, y5, y6, rfl, hbl, hv, hpd, hst, P', e'⟩
      rw [Int.toNat_natCast] at hbl
      have hpd0 : Paired (LsN K H' [p, l]) vs b := Paired.imp hpd fun _ _ z => by
        obtain ⟨g, ps, rfl, h1, h2, h3⟩ := z
        exact ⟨g, ps, rfl, fun z => h1 (by rcases List.mem_cons.mp z with rfl | z <;> simp_all), h2, h3⟩
      -- the last three
      refine ⟨_, rfl, _, rfl, (by show 2 ≤ sizeLine; decide), fun a1 ha1 => ⟨(by show 1 ≤ sizeLine; decide), fun l1 hl1 => ⟨_, rfl, _, _, rfl, rfl, (by show 2 ≤ sizeLine; decide), fun a2 ha2 => ⟨(by show 1 ≤ sizeLine; decide), fun l2 hl2 => ?_⟩⟩⟩⟩
      have x1 : Ext [] H' (upd H' a1 (.tup [.int 4, .int n])) := .new ha1
      have x2 : Ext [] (upd H' a1 (.tup [.int 4, .int n])) (upd (upd H' a1 (.tup [.int 4, .int n])) l1 (.lst [.ref a1])) := .new hl1
      have x3 : Ext [] (upd (upd H' a1 (.tup [.int 4, .int n])) l1 (.lst [.ref a1])) (upd (upd (upd H' a1 (.tup [.int 4, .int n])) l1 (.lst [.ref a1])) a2 (.tup [.int 4, .int (n + 1)])) := .new ha2
      have x4 : Ext [] (upd (upd (upd H' a1 (.tup [.int 4, .int n])) l1 (.lst [.ref a1])) a2 (.tup [.int 4, .int (n + 1)])) (upd (upd (upd (upd H' a1 (.tup [.int 4, .int n])) l1 (.lst [.ref a1])) a2 (.tup [.int 4, .int (n + 1)])) l2 (.lst [.ref a2])) := .new hl2
      have m1 : MvV K (upd (upd (upd (upd H' a1 (.tup [.int 4, .int n])) l1 (.lst [.ref a1])) a2 (.tup [.int 4, .int (n + 1)])) l2 (.lst [.ref a2])) a1 (4, n) := ((x2.trans x3).trans x4).tup Lsts.nil (.of upd_same)
      have m2 : MvV K (upd (upd (upd (upd H' a1 (.tup [.int 4, .int n])) l1 (.lst [.ref a1])) a2 (.tup [.int 4, .int (n + 1)])) l2 (.lst [.ref a2])) a2 (4, n + 1) := x4.tup Lsts.nil (.of upd_same)
      have q1 : upd (upd (upd (upd H' a1 (.tup [.int 4, .int n])) l1 (.lst [.ref a1])) a2 (.tup [.int 4, .int (n + 1)])) l2 (.lst [.ref a2]) l1 = some (.lst [.ref a1]) := (x3.trans x4).at upd_same (by simp)
      have q2 : upd (upd (upd (upd H' a1 (.tup [.int 4, .int n])) l1 (.lst [.ref a1])) a2 (.tup [.int 4, .int (n + 1)])) l2 (.lst [.ref a2]) l2 = some (.lst [.ref a2]) := upd_same
      have x := ((x1.trans x2).trans x3).trans x4
      obtain ⟨l1p, l1l⟩ := P'.off (x1.free hl1)
      obtain ⟨l2p, l2l⟩ := P'.off (((x1.trans x2).trans x3).free hl2)
      clear x1 x2 x3 x4 ha1 hl1 ha2 hl2
      have e9 : (fun i j : Int => V.int (i + j)) (n : Int) 1 = V.int ((n : Int) + 1) := rfl
      show _
      generalize hG : upd (upd (upd (upd H' a1 (.tup [.int 4, .int n])) l1 (.lst [.ref a1])) a2 (.tup [.int 4, .int (n + 1)])) l2 (.lst [.ref a2]) = H2 at *
      have P2 := P'.ext0 x
      have hv2 := x.at hv (by simp)
      have hpd2 : Paired (LsN K H2 [p, l]) vs b := Paired.imp hpd0 fun _ _ z => z.ext x (by simp) Lsts.nil
      refine ⟨fun v H3 => ∃ (l3 : Addr) (ps : List Addr) (s3 : State), v = .ref l3 ∧ H3 l3 = some (.lst (ps.map V.ref)) ∧ Paired (MvV K H3) ps s3 ∧ StOk (n + 3) s3 ∧ PoolAt H3 p l ∧ Ext [p, l] H2 H3, ?_, ?_⟩
      · refine ⟨_, rfl, p, l, 2, rfl, P2, by decide, by decide, fun r3 H3 r30 r31 P3 e3 => ⟨rfl, _, rfl, ite2 (fun _ => ?_) (fun _ => ?_)⟩⟩
        · refine ⟨_, rfl, _, _, rfl, rfl, (by show 2 ≤ sizeLine; decide), fun a3 ha3 => ⟨(by show 1 ≤ sizeLine; decide), fun l3 hl3 => ?_⟩⟩
          have y1 : Ext [] H3 (upd H3 a3 (.tup [.int 5, .int (n + 2)])) := .new ha3
          have y2 : Ext [] (upd H3 a3 (.tup [.int 5, .int (n + 2)])) (upd (upd H3 a3 (.tup [.int 5, .int (n + 2)])) l3 (.lst [.ref a3])) := .new hl3
          have m3 : MvV K (upd (upd H3 a3 (.tup [.int 5, .int (n + 2)])) l3 (.lst [.ref a3])) a3 (5, n + 2) := y2.tup Lsts.nil (.of upd_same)
          exact ⟨l3, [a3], [(5, n + 2)], rfl, upd_same, .cons m3 .nil, ⟨by simp, by simp, by simp, by simp⟩, P3.ext0 (y1.trans y2), e3.trans (y1.trans y2).weak⟩
        · exact ⟨Nat.zero_le _, fun l3 hl3 => ⟨l3, [], [], rfl, upd_same, .nil, ⟨by simp, by simp, by simp, by simp⟩, P3.ext0 (.new hl3), e3.trans (Ext.weak (.new hl3))⟩⟩
      · rintro v H3 ⟨l3, ps3, s3, rfl, hl3, hps3, hs3, P3, e3⟩
        refine ⟨(by show 3 ≤ sizeLine; decide), fun l4 hl4 => ?_⟩
        have y1 : Ext [] H3 (upd H3 l4 (.lst [.ref l1, .ref l2, .ref l3])) := .new hl4
        have hv4 := y1.at (e3 _ _ (off2 mp ml) hv2) (by simp)
        refine ⟨mv, l4, _, _, rfl, rfl, hv4, upd_same, ?_, fun l5 hl5 => ?_⟩
        · rw [Paired.len hpd2]
          exact Nat.le_of_lt (small1000 (by show b.length + 3 ≤ 1000; omega))
        have y2 : Ext [] (upd H3 l4 (.lst [.ref l1, .ref l2, .ref l3])) (upd (upd H3 l4 (.lst [.ref l1, .ref l2, .ref l3])) l5 (.lst (vs ++ [.ref l1, .ref l2, .ref l3]))) := .new hl5
        have y := y1.trans y2
        have hl5' : upd (upd H3 l4 (.lst [.ref l1, .ref l2, .ref l3])) l5 (.lst (vs ++ [.ref l1, .ref l2, .ref l3])) l5 = some (.lst (vs ++ [.ref l1, .ref l2, .ref l3])) := upd_same
        generalize upd (upd H3 l4 (.lst [.ref l1, .ref l2, .ref l3])) l5 (.lst (vs ++ [.ref l1, .ref l2, .ref l3])) = H5 at *
        have old : ∀ {v : V} {s : State}, LsN K H2 [p, l] v s → LsV K H5 v s := fun z => ((z.ext e3 (fun y h => h) P2.lsts).ls).ext0 y
        have hlb : LbV K H5 (.ref l5) (b ++ [[(4, n)], [(4, n + 1)], s3]) := by
          refine ⟨l5, _, rfl, hl5', Paired.app (Paired.imp hpd2 fun _ _ z => old z) (.cons (old ⟨l1, [a1], rfl, off2 l1p l1l, q1, .cons m1 .nil⟩) (.cons (old ⟨l2, [a2], rfl, off2 l2p l2l, q2, .cons m2 .nil⟩) (.cons ?_ .nil)))⟩
          exact LsV.ext0 ⟨l3, ps3, rfl, hl3, hps3⟩ y
        have bl : (b ++ [[(4, n)], [(4, n + 1)], s3]).length = n + 3 := by rw [List.length_append, hbl]; rfl
        have sd : ∀ s, StOk (n + 3) (mvs (b ++ [[(4, n)], [(4, n + 1)], s3]) s) := fun s => by
          by_cases hs : s < (b ++ [[(4, n)], [(4, n + 1)], s3]).length
          · rcases List.mem_append.mp (mvs_mem hs) with h | h
            · exact hst _ h
            · simp only [List.mem_cons, List.not_mem_nil, or_false] at h
              rcases h with h | h | h
              · rw [h]
                exact ⟨by simp, by simp, by simp, by simp⟩
              · rw [h]
                exact ⟨by simp, by simp, by simp, by simp⟩
              · rw [h]
                exact hs3
          · rw [mvs_out (by omega)]
            exact ⟨by simp, by simp, by simp, by simp⟩
        refine ⟨.ref l5, _, rfl, hlb, by rw [bl]; omega, by rw [bl]; omega, fun s => ⟨Nat.le_trans (sd s).few (by omega), fun z hz => by rw [bl]; exact (sd s).to z hz⟩, fun F v H6 mt hbk e6 => ?_⟩
        have ok := mt.okB (by rw [bl]; omega) fun s hs => ⟨(sd s).few, (sd s).rise, (sd s).msg⟩
        exact q _ v _ ok hbk ((P3.ext0 y).ext0 e6) (((e'.trans x.weak).trans e3).trans (y.trans e6).weak)
theorem sc_law_many_rays : FnScope ["pool", "moves", "state", "message"] ["pool"] (defScope s_law_many_rays) := ⟨rfl, rfl, rfl, by decide +kernel, rfl, by decide +kernel, by decide +kernel⟩
def st7 (i : Nat) : State := (List.range 5).map fun m => (m, i + 1)
theorem ok_law_many_rays (T : Tx K mg) : FnOk P w K mg base CX0 3 T.law_many_rays.f T.law_many_rays.fd ["pool"] (sp_law_rayed K) := by
  refine T.law_many_rays.F.ok sc_law_many_rays (fun vs H Q E h => ?_) (fun cdv A outer s H vs Q E hr h => ?_)
  · obtain ⟨p, l, rfl, _⟩ := h; rfl
  · obtain ⟨p, l, rfl, hP, q⟩ := h
    refine ⟨_, (pss_cons (ps_setLc (i := 1) (own := [("state", 2)]) rfl sc_law_many_rays.nd rfl rfl (sw_true rfl rfl rfl (by decide +kernel)) (pi_range1 (by rfl) T.n_range (pa_cons pe_int pa_nil)) (blkOk_by (own := [("state", 2)]) (N := ["pool", "moves", "state", "message"]) (sc := defScope s_law_many_rays) (by decide +kernel)) (fun _ _ _ _ _ => (pg_name (i := 2) sc_law_many_rays.nd rfl (.inr rfl))) (fun _ _ _ _ _ => pts_nil) (fun _ _ _ _ _ => (pe_lc (own := [("message", 3)]) rfl sc_law_many_rays.nd (pi_range1 (by rfl) T.n_range (pa_cons pe_int pa_nil)) (blkOk_by (own := [("message", 3)]) (by kernel_rfl)) (fun _ _ _ _ _ => (pg_name (i := 3) sc_law_many_rays.nd rfl (.inl rfl))) (fun _ _ _ _ _ => pts_nil) (fun _ _ _ _ _ => (pe_tup (pa_cons (pv 3) (pa_cons (pe_op op_add (pv 2) pe_int) pa_nil)))))))
      (pss_one (ps_ret (pe_call (ok_law_book_meeting T) (hr.mono (by decide)) (by rfl) T.law_book_meeting.g T.law_book_meeting.F.kp T.law_book_meeting.b .nil pass0 (pa_cons (pe_op op_cat (pv 1) (pe_lst (pa_cons (pe_lst (pa_cons (pe_tup (pa_cons (pe_call (ok_law_draw T) (hr.mono (by decide)) (by rfl) T.law_draw.g T.law_draw.F.kp T.law_draw.b .nil pass0 (pa_cons (pv 0) (pa_cons pe_int pa_nil))) (pa_cons pe_int pa_nil))) pa_nil)) pa_nil))) pa_nil))))), ?_⟩
    refine ⟨7, rfl, by decide, by decide, fun D hD => ?_⟩
    obtain ⟨Dp', Dl⟩ := hP.off hD
    refine lc_range (lo := 0) (n := 7) (fun i H' => ∃ vs : List V, H' D = some (.lst vs) ∧ Paired (LsN K H' [p, l, D]) vs ((List.range i).map st7) ∧ Ext [] H H') ⟨[], upd_same, .nil, .new hD⟩ ?_ ?_
    · rintro i H1 hi ⟨vs, hX, hp, e1⟩
      simp only [Int.zero_add]
      refine ⟨rfl, yes ?_⟩
      refine ⟨5, rfl, by decide, by decide, fun D2 hD2 => ?_⟩
      have DD : D2 ≠ D := fun z => by rw [z, hX] at hD2; cases hD2
      obtain ⟨D2p, D2l⟩ := (hP.ext0 e1).off hD2
      refine lc_range (lo := 0) (n := 5) (fun m H' => ∃ ps : List Addr, H' D2 = some (.lst (ps.map V.ref)) ∧ Paired (MvV K H') ps ((List.range m).map fun m => (m, i + 1)) ∧ Ext [] H1 H') ⟨[], upd_same, .nil, .new hD2⟩ ?_ ?_
      · rintro m H2 hm ⟨ps, hX2, hps, e2⟩
        simp only [Int.zero_add]
        refine ⟨rfl, yes ?_⟩
        refine ⟨_, rfl, _, rfl, _, _, rfl, rfl, (by show 2 ≤ sizeLine; decide), fun t ht => ?_⟩
        have x : Ext [] H2 (upd H2 t (.tup [.int m, .int (i + 1)])) := .new ht
        have hX3 := x.at hX2 (by simp)
        refine ⟨_, hX3, ?_, ps ++ [t], by rw [upd_same, List.map_append]; rfl, ?_, (e2.trans x).put hD2⟩
        · rw [List.length_map, Paired.len hps, List.length_map, List.length_range]
          exact small1000 (by omega)
        · rw [List.range_succ, List.map_append]
          refine Paired.snoc ?_ (Paired.imp hps fun _ _ z => (z.ext0 x).put hX3)
          exact MvV.put (m := (m, i + 1)) (.of upd_same) hX3
      · rintro H2 ⟨ps, hX2, hps, e2⟩
        have hXD := e2.at hX (by simp)
        have w1 : Ext [D] H2 (upd H2 D (.lst (vs ++ [.ref D2]))) := .wr (by simp)
        have l1 : Lsts [D] H2 := one_lst hXD
        refine ⟨vs, hXD, ?_, vs ++ [.ref D2], upd_same, ?_, (e1.trans e2).put hD⟩
        · rw [Paired.len hp, List.length_map, List.length_range]
          exact small1000 (by omega)
        · rw [List.range_succ, List.map_append]
          refine Paired.snoc (LsN.ext (Y := [D]) ⟨D2, ps, rfl, by simp [D2p, D2l, DD], hX2, hps⟩ w1 (by simp) l1) (Paired.imp hp fun _ _ z => (z.ext e2 (by simp) Lsts.nil).ext w1 (by simp) l1)
    · rintro H1 ⟨vs, hX, hp, e1⟩
      have P1 := hP.ext0 e1
      refine ⟨_, rfl, _, rfl, p, l, 100, rfl, P1, by decide, by decide, fun r H2 r0 r1 P2 e2 => ⟨(by show 2 ≤ sizeLine; decide), fun a1 ha1 => ⟨(by show 1 ≤ sizeLine; decide), fun l1 hl1 => ⟨(by show 1 ≤ sizeLine; decide), fun l2 hl2 => ?_⟩⟩⟩⟩
      obtain ⟨k, rfl⟩ : ∃ j : Nat, r = (j : Int) := ⟨r.toNat, by omega⟩
      have x1 : Ext [] H2 (upd H2 a1 (.tup [.int k, .int 7])) := .new ha1
      have x2 : Ext [] (upd H2 a1 (.tup [.int k, .int 7])) (upd (upd H2 a1 (.tup [.int k, .int 7])) l1 (.lst [.ref a1])) := .new hl1
      have x3 : Ext [] (upd (upd H2 a1 (.tup [.int k, .int 7])) l1 (.lst [.ref a1])) (upd (upd (upd H2 a1 (.tup [.int k, .int 7])) l1 (.lst [.ref a1])) l2 (.lst [.ref l1])) := .new hl2
      have m1 : MvV K (upd (upd (upd H2 a1 (.tup [.int k, .int 7])) l1 (.lst [.ref a1])) l2 (.lst [.ref l1])) a1 (k, 7) := (x2.trans x3).tup Lsts.nil (.of upd_same)
      have q1 : upd (upd (upd H2 a1 (.tup [.int k, .int 7])) l1 (.lst [.ref a1])) l2 (.lst [.ref l1]) l1 = some (.lst [.ref a1]) := x3.at upd_same (by simp)
      have q2 : upd (upd (upd H2 a1 (.tup [.int k, .int 7])) l1 (.lst [.ref a1])) l2 (.lst [.ref l1]) l2 = some (.lst [.ref l1]) := upd_same
      have x := (x1.trans x2).trans x3
      clear x1 x2 x3 ha1 hl1 hl2
      generalize upd (upd (upd H2 a1 (.tup [.int k, .int 7])) l1 (.lst [.ref a1])) l2 (.lst [.ref l1]) = H3 at *
      have vl : vs.length = 7 := by rw [Paired.len hp, List.length_map, List.length_range]
      have hX3 := x.at (e2 _ _ (off2 Dp' Dl) hX) (by simp)
      have hp3 : Paired (LsV K H3) vs ((List.range 7).map st7) := Paired.imp hp fun _ _ z => ((z.ext e2 (by simp) P1.lsts).ls).ext0 x
      refine ⟨D, l2, _, _, rfl, rfl, hX3, q2, by rw [vl]; exact Nat.le_of_lt (small1000 (by show 7 + 1 ≤ 1000; omega)), fun l5 hl5 => ?_⟩
      have y : Ext [] H3 (upd H3 l5 (.lst (vs ++ [.ref l1]))) := .new hl5
      have hl5' : upd H3 l5 (.lst (vs ++ [.ref l1])) l5 = some (.lst (vs ++ [.ref l1])) := upd_same
      generalize upd H3 l5 (.lst (vs ++ [.ref l1])) = H5 at *
      have hlb : LbV K H5 (.ref l5) ((List.range 7).map st7 ++ [[(k, 7)]]) := ⟨l5, _, rfl, hl5', Paired.app (Paired.imp hp3 fun _ _ z => z.ext0 y) (.cons (LsV.ext0 ⟨l1, [a1], rfl, q1, .cons m1 .nil⟩ y) .nil)⟩
      have bl : ((List.range 7).map st7 ++ [[(k, 7)]]).length = 8 := by simp
      have sd : ∀ s, StOk 8 (mvs ((List.range 7).map st7 ++ [[(k, 7)]]) s) := fun s => by
        by_cases hs : s < ((List.range 7).map st7 ++ [[(k, 7)]]).length
        · rcases List.mem_append.mp (mvs_mem hs) with h | h
          · obtain ⟨i, hi, e⟩ := List.mem_map.mp h
            have hi := List.mem_range.mp hi
            rw [← e]
            refine ⟨by simp [st7], ?_, fun z hz => ?_, fun z hz => ?_⟩
            · unfold st7
              rw [List.map_map]
              have : ((fun x : Nat × Nat => x.1) ∘ fun m => (m, i + 1)) = id := rfl
              rw [this, List.map_id]
              exact range_rise 5
            · obtain ⟨m, hm, rfl⟩ := List.mem_map.mp hz
              have := List.mem_range.mp hm
              show m ≤ 99
              omega
            · obtain ⟨m, hm, rfl⟩ := List.mem_map.mp hz
              show i + 1 < 8
              omega
          · rw [List.mem_singleton.mp h]
            exact ⟨by simp, by simp, (by simp; omega), by simp⟩
        · rw [mvs_out (by omega)]
          exact ⟨by simp, by simp, by simp, by simp⟩
      refine ⟨.ref l5, _, rfl, hlb, by rw [bl]; omega, by rw [bl]; omega, fun s => ⟨Nat.le_trans (sd s).few (by omega), fun z hz => by rw [bl]; exact (sd s).to z hz⟩, fun F v H6 mt hbk e6 => ?_⟩
      have ok := mt.okB (by rw [bl]; omega) fun s hs => ⟨(sd s).few, (sd s).rise, (sd s).msg⟩
      exact q _ v _ ok hbk ((P2.ext0 (x.trans y)).ext0 e6) ((e1.weak.trans e2).trans ((x.trans y).trans e6).weak)
end
end Nv
set_option Elab.async false
set_option linter.all false
set_option maxRecDepth 100000
namespace Nv
open PySem PySem.Spec PyProof.Rows L2
section
variable {P : Program} {w : World} {K : PySem.W.Frag} {mg : Str → Option Value} {base : Heap}
/-! ### windows that are none -/
theorem sc_law_win_no_windows : FnScope [] [] (defScope s_law_win_no_windows) := ⟨rfl, rfl, rfl, by decide +kernel, rfl, by decide +kernel, by decide +kernel⟩
def noWins : List PyData := [.none, .int 0, .int (-1), .bool true, .bool false, .str "1", .tuple [.int 1], .int (-(10 ^ 20))]
def sp_law_win_no_windows (K : PySem.W.Frag) : Sp := fun vs H Q _ => vs = [] ∧ ∀ (t : Addr) (xs : List V) (H' : Hp), H' t = some (.lst xs) → DpAll K H' xs noWins → Ext [] H H' → Q (.ref t) H'
theorem ok_law_win_no_windows (T : Tx K mg) : FnOk P w K mg base CX0 1 T.law_win_no_windows.f T.law_win_no_windows.fd [] (sp_law_win_no_windows K) := by
  refine T.law_win_no_windows.F.ok sc_law_win_no_windows (fun vs H Q E h => ?_) (fun cdv A outer s H vs Q E hr h => ?_)
  · obtain ⟨rfl, _⟩ := h; rfl
  · obtain ⟨rfl, q⟩ := h
    refine ⟨_, (pss_one (ps_ret (pe_lst (pa_cons pe_non (pa_cons pe_int (pa_cons (pe_un un_neg pe_int) (pa_cons pe_bl (pa_cons pe_bl (pa_cons pe_str (pa_cons (pe_tup (pa_cons pe_int pa_nil)) (pa_cons (pe_un un_neg (pe_op op_pow pe_int pe_int)) pa_nil))))))))))), ?_⟩
    refine ⟨1, rfl, (by show 1 ≤ sizeLine; decide), fun t ht => ?_⟩
    have e1 : Ext [] H (upd H t (.tup [.int 1])) := .new ht
    refine ⟨10, 20, rfl, rfl, ⟨by decide, by decide, by decide⟩, _, rfl, (by show 8 ≤ sizeLine; decide), fun l hl => ?_⟩
    have e2 : Ext [] (upd H t (.tup [.int 1])) (upd (upd H t (.tup [.int 1])) l (.lst [.non, .int 0, .int (-1), .bl true, .bl false, .str "1", .ref t, .int (-(10 ^ 20))])) := .new hl
    exact q l _ _ upd_same (.cons .non (.cons (.int 0) (.cons (.int (-1)) (.cons (.bl true) (.cons (.bl false) (.cons (.str "1") (.cons (.tup (e2.tup Lsts.nil (.of upd_same)) (.cons (.int 1) .nil)) (.cons (.int _) .nil)))))))) (e1.trans e2)
end
end Nv
set_option Elab.async false
set_option linter.all false
set_option maxRecDepth 100000
namespace Nv
open PySem PySem.Spec PyProof.Rows L2
section
variable {P : Program} {w : World} {K : PySem.W.Frag} {mg : Str → Option Value} {base : Heap}
/-! ### refusals of the least numbers -/

theorem okX_from_window (T : Tx K mg) : FnOk P w K mg base (L2.CX P w) 7 T.from_window.f T.from_window.fd ["book"] (sp_refused K T.x_BadBook.C T.x_Stray.C) := by
  refine T.from_window.F.okX sc_from_window (fun vs H Q E h => ?_) (fun cdv A outer s H vs Q E hr h => ?_)
  · obtain ⟨v, d, C, e, rfl, _⟩ := h; rfl
  · obtain ⟨v, d, C, e, rfl, hd, href, q⟩ := h
    refine ⟨_, (pss_cons (ps_expr (pe_call (okX_made_book T) (hr.mono (by decide)) (by rfl) T.made_book.g T.made_book.F.kp T.made_book.b .nil (passes_call (takes_of rfl rfl rfl rfl) (fun _ _ _ _ h => h)) (pa_cons (pv 0) pa_nil)))
      (PSs.nox (pss_cons (ps_for PassesOwn.never rfl (pi_range2 (by rfl) T.n_range (pa_cons pe_int (pa_cons (pe_op op_add (pe_glob (v := .int 9) (by rfl) T.c_LAST_WINDOW.choose_spec ⟨_, rfl⟩) pe_int) pa_nil))) (pg_name (i := 1) sc_from_window.nd rfl (.inl rfl))
        (pss_one (ps_if (pt_cmpR op_eq (pe_call (okA_least_for T) (hr.mono (by decide)) (by rfl) T.least_for.g T.least_for.F.kp T.least_for.b .nil pass0 (pa_cons (pv 0) (pa_cons (pv 1) pa_nil))) pe_int (nomark _))
          (pss_one (ps_ret (pv 1)))
          pss_nil)))
      (pss_one (ps_ret pe_non))))), ?_⟩
    exact ⟨_, rfl, v, d, C, e, rfl, hd, href, q⟩

theorem okX_verdict (T : Tx K mg) : FnOk P w K mg base (L2.CX P w) 7 T.verdict.f T.verdict.fd ["book"] (sp_refused K T.x_BadBook.C T.x_Stray.C) := by
  refine T.verdict.F.okX sc_verdict (fun vs H Q E h => ?_) (fun cdv A outer s H vs Q E hr h => ?_)
  · obtain ⟨v, d, C, e, rfl, _⟩ := h; rfl
  · obtain ⟨v, d, C, e, rfl, hd, href, q⟩ := h
    refine ⟨_, (pss_cons (ps_expr (pe_call (okX_made_book T) (hr.mono (by decide)) (by rfl) T.made_book.g T.made_book.F.kp T.made_book.b .nil (passes_call (takes_of rfl rfl rfl rfl) (fun _ _ _ _ h => h)) (pa_cons (pv 0) pa_nil)))
      (PSs.nox (pss_one (ps_ret (pe_tup (pa_cons (pe_callTy call_tupZ (by rfl) T.n_tuple (by decide +kernel) (pa_cons (pe_lc (own := [("window", 1)]) rfl sc_verdict.nd (pi_range2 (by rfl) T.n_range (pa_cons pe_int (pa_cons (pe_op op_add (pe_glob (v := .int 9) (by rfl) T.c_LAST_WINDOW.choose_spec ⟨_, rfl⟩) pe_int) pa_nil))) (blkOk_by (own := [("window", 1)]) (N := ["book", "window"]) (sc := defScope s_verdict) (by decide +kernel)) (fun _ _ _ _ _ => (pg_name (i := 1) sc_verdict.nd rfl (.inl rfl))) (fun _ _ _ _ _ => pts_nil) (fun _ _ _ _ _ => (pe_call (okA_least_for T) (hr.mono (by decide)) (by rfl) T.least_for.g T.least_for.F.kp T.least_for.b .nil pass0 (pa_cons (pv 0) (pa_cons (pv 1) pa_nil))))) pa_nil)) (pa_cons (pe_call (okA_least_for T) (hr.mono (by decide)) (by rfl) T.least_for.g T.least_for.F.kp T.least_for.b .nil pass0 (pa_cons (pv 0) (pa_cons pe_non pa_nil))) pa_nil))))))), ?_⟩
    exact ⟨_, rfl, v, d, C, e, rfl, hd, href, q⟩
/-- no book, or no window (None is let) -/
def RefBO (K : PySem.W.Frag) (CB CS CW : Addr) (H : Hp) (E : XK) (v u : V) : Prop := (∃ (d : PyData) (C : Addr) (e : Int), Dp K H v d ∧ Ref CB CS d C e ∧ Outs H E C e) ∨ (∃ (b : Book) (d : PyData), BkV K H v b ∧ OkB b ∧ Dp K H u d ∧ winD d = false ∧ OutsV H E CW (.int 0))
def sp_leastX (K : PySem.W.Frag) (CB CS CW : Addr) : Sp := fun vs H _ E => ∃ (v u : V), vs = [v, u] ∧ RefBO K CB CS CW H E v u

theorem okX_least_wires (T : Tx K mg) : FnOk P w K mg base (L2.CX P w) 7 T.least_wires.f T.least_wires.fd ["book", "window"] (sp_leastX K T.x_BadBook.C T.x_Stray.C T.x_BadWindow.C) := by
  refine T.least_wires.F.okX sc_least_wires (fun vs H Q E h => ?_) (fun cdv A outer s H vs Q E hr h => ?_)
  · obtain ⟨v, u, rfl, _⟩ := h; rfl
  · obtain ⟨v, u, rfl, ⟨d, C, e, hd, href, q⟩ | ⟨b, d, hb, ok, hd, hn, q⟩⟩ := h
    · refine ⟨_, (pss_cons (ps_expr (pe_call (okX_made_book T) (hr.mono (by decide)) (by rfl) T.made_book.g T.made_book.F.kp T.made_book.b .nil (passes_call (takes_of rfl rfl rfl rfl) (fun _ _ _ _ h => h)) (pa_cons (pv 0) pa_nil)))
      (PSs.nox (pss_cons (ps_expr (pe_call (okA_made_window T) (hr.mono (by decide)) (by rfl) T.made_window.g T.made_window.F.kp T.made_window.b .nil pass0 (pa_cons (pv 1) pa_nil)))
      (pss_one (ps_ret (pe_call (okA_least_for T) (hr.mono (by decide)) (by rfl) T.least_for.g T.least_for.F.kp T.least_for.b .nil pass0 (pa_cons (pv 0) (pa_cons (pv 1) pa_nil)))))))), ?_⟩
      exact ⟨_, rfl, v, d, C, e, rfl, hd, href, q⟩
    · refine ⟨_, (pss_cons (ps_expr (pe_call (ok_made_book T) (hr.mono (by decide)) (by rfl) T.made_book.g T.made_book.F.kp T.made_book.b .nil pass0 (pa_cons (pv 0) pa_nil)))
      (pss_cons (ps_expr (pe_call (okX_made_window T) (hr.mono (by decide)) (by rfl) T.made_window.g T.made_window.F.kp T.made_window.b .nil (passes_call (takes_of rfl rfl rfl rfl) (fun _ _ _ _ h => h)) (pa_cons (pv 1) pa_nil)))
      (PSs.nox (pss_one (ps_ret (pe_call (okA_least_for T) (hr.mono (by decide)) (by rfl) T.least_for.g T.least_for.F.kp T.least_for.b .nil pass0 (pa_cons (pv 0) (pa_cons (pv 1) pa_nil)))))))), ?_⟩
      exact ⟨_, rfl, v, b, rfl, hb, ok, fun H1 e1 => ⟨_, rfl, u, d, rfl, Dp.ext0 e1 hd, (fun z => by rw [hn] at z; cases z), fun _ => q.ext e1⟩⟩
end
end Nv
set_option Elab.async false
set_option linter.all false
set_option maxRecDepth 100000
namespace Nv
open PySem PySem.Spec PyProof.Rows L2
section
variable {P : Program} {w : World} {K : PySem.W.Frag} {mg : Str → Option Value} {base : Heap}
/-! ### refusals, and the law -/
theorem wins_bad1 : ∀ d ∈ noWins.drop 1, winD d = false := by
  intro d hd
  simp only [noWins, List.drop, List.mem_cons, List.not_mem_nil, or_false] at hd
  rcases hd with rfl | rfl | rfl | rfl | rfl | rfl | rfl
  all_goals decide +kernel
def sp_law_refused (K : PySem.W.Frag) (P : Addr) : Sp := fun vs H Q _ => ∃ (p l : Addr) (v : V) (b : Book), vs = [.ref p, v] ∧ PoolAt H p l ∧ BkV K H v b ∧ OkB b ∧ H P = some (.tbl #[]) ∧ ∀ H', PoolAt H' p l → Q (.bl true) H'
theorem sc_law_refused : FnScope ["pool", "book", "thing", "due", "bad"] ["pool", "book"] (defScope s_law_refused) := ⟨rfl, rfl, rfl, by decide +kernel, rfl, by decide +kernel, by decide +kernel⟩
abbrev qRef0 (T : Tx K mg) (s : Shared) (cl : Addr) : Str := (envOfC "_law_refused" (defScope s_law_refused) s.heap.objs.size T.law_refused.f (.ref cl)).qual
abbrev qRef (T : Tx K mg) (s : Shared) (cl : Addr) : Str := (envOfC "_law_refused" (defScope s_law_refused) s.heap.objs.size T.law_refused.f (.ref cl)).qual ++ "<lambda>"
theorem ok_law_refused (T : Tx K mg) {cl Pt : Addr} {kV doc pm ct oc : Value} {an od : Option Addr} {osl : Array (Option Value)}
    (lk : K.lookup T.law_refused.f = some ⟨oc, od, .func (PySem.W.fnOf "_law_refused" "_law_refused" (defArgs s_law_refused) (defBody s_law_refused) (defScope s_law_refused) .none kV doc pm an (.ref cl) ct), osl⟩) (cd : PySem.W.codeIn K (.ref cl) "_law_refused" = true) (TB : LamX.TabB base mg cl Pt) :
    FnG P w K mg base CX0 10 T.law_refused.f T.law_refused.fd ["pool", "book"] (sp_law_refused K Pt) := by
  rw [fd_of T.law_refused lk]
  refine fnG_of lk cd sc_law_refused (fun vs H Q E h => ?_) fun A outer s H vs Q E hG hr h => ?_
  · obtain ⟨p, l, v, b, rfl, _⟩ := h; rfl
  · obtain ⟨p, l, v, b, rfl, P0, hb0, ok, hP, q⟩ := h
    have fb := ok.toFormB
    have h8 := fb.eight
    refine ⟨_, PSs.nox (pss_cons (ps_for PassesOwn.never rfl (pi_list (pe_call (ok_law_win_no_books T) (hr.mono (by decide)) (by rfl) T.law_win_no_books.g T.law_win_no_books.F.kp T.law_win_no_books.b .nil pass0 (pa_cons (pv 0) (pa_cons (pv 1) pa_nil)))) (pg_tup rfl (pgs_cons (pg_name (i := 2) sc_law_refused.nd rfl (.inr rfl)) (pgs_cons (pg_name (i := 3) sc_law_refused.nd rfl (.inl rfl)) pgs_nil)))
        (pss_cons (ps_if (pt_cmpR op_ne (pe_heardA hG (k := 7) T rfl rfl (by rfl) TB rfl (hr.mono (by decide)) (LamX.lamS_by (sc := defScope s_law_refused) (by decide +kernel)) rfl (fun _ _ _ _ _ => rfl) (fun _ _ _ _ _ _ _ hr => (pe_call (okX_least_wires T) (hr.mono (by decide)) (by rfl) T.least_wires.g T.least_wires.F.kp T.least_wires.b .nil (passes_call (takes_of rfl rfl rfl rfl) (fun _ _ _ _ h => h)) (pa_cons (pv 2) (pa_cons pe_int pa_nil))))) (pv 3) (nomark _))
          (pss_one (ps_ret pe_bl))
          pss_nil)
        (pss_cons (ps_if (pt_cmpR op_ne (pe_heardA hG (k := 7) T rfl rfl (by rfl) TB rfl (hr.mono (by decide)) (LamX.lamS_by (sc := defScope s_law_refused) (by decide +kernel)) rfl (fun _ _ _ _ _ => rfl) (fun _ _ _ _ _ _ _ hr => (pe_call (okX_from_window T) (hr.mono (by decide)) (by rfl) T.from_window.g T.from_window.F.kp T.from_window.b .nil (passes_call (takes_of rfl rfl rfl rfl) (fun _ _ _ _ h => h)) (pa_cons (pv 2) pa_nil)))) (pv 3) (nomark _))
          (pss_one (ps_ret pe_bl))
          pss_nil)
        (pss_one (ps_if (pt_cmpR op_ne (pe_heardA hG (k := 7) T rfl rfl (by rfl) TB rfl (hr.mono (by decide)) (LamX.lamS_by (sc := defScope s_law_refused) (by decide +kernel)) rfl (fun _ _ _ _ _ => rfl) (fun _ _ _ _ _ _ _ hr => (pe_call (okX_verdict T) (hr.mono (by decide)) (by rfl) T.verdict.g T.verdict.F.kp T.verdict.b .nil (passes_call (takes_of rfl rfl rfl rfl) (fun _ _ _ _ h => h)) (pa_cons (pv 2) pa_nil)))) (pv 3) (nomark _))
          (pss_one (ps_ret pe_bl))
          pss_nil)))))
      (pss_one (ps_ret (pe_cmpR (op_eqD (hr.units)) (pe_lc (own := [("bad", 4)]) rfl sc_law_refused.nd (pi_list (pe_slice sl_list (pe_call0 (ok_law_win_no_windows T) (hr.mono (by decide)) (by rfl) T.law_win_no_windows.g T.law_win_no_windows.F.kp T.law_win_no_windows.b .nil pass0) (po_some pe_int) po_none)) (blkOk_by (own := [("bad", 4)]) (N := ["pool", "book", "thing", "due", "bad"]) (sc := defScope s_law_refused) (by decide +kernel)) (fun _ _ _ _ _ => (pg_name (i := 4) sc_law_refused.nd rfl (.inr rfl))) (fun _ _ _ _ _ => pts_one (pt_mid (pt_cmpR op_ne (pe_heardB (qRef0 T s cl) hG (k := 7) T rfl rfl (by rfl) TB rfl (hr.mono (by decide)) (LamX.lamS_by (by kernel_rfl)) rfl (fun _ _ _ _ _ => rfl) (fun _ _ _ _ _ _ _ hr => (pe_call (okX_least_wires T) (hr.mono (by decide)) (by rfl) T.least_wires.g T.least_wires.F.kp T.least_wires.b .nil (passes_call (takes_of rfl rfl rfl rfl) (fun _ _ _ _ h => h)) (pa_cons (pv 1) (pa_cons (pv 4) pa_nil))))) pe_str (nomark _)))) (fun _ _ _ _ _ => (pv 4))) (pe_lst pa_nil) (nomark _))))), ?_⟩
    have T0 : LamX.Tabs [(Pt, qRef T s cl)] H := fun z hz => by
      rw [List.mem_singleton.mp hz]
      exact LamX.TabS.nil hP
    refine ⟨_, rfl, _, rfl, p, l, v, b, rfl, P0, hb0, ok, fun t xs H3 ht hx P3 e3 => ⟨t, rfl, ⟨_, .of ht⟩, ?_⟩⟩
    have T3 := e3.tabs P0.only T0
    have hb3 := hb0.ext e3 P0.lsts
    refine for_list (K := K) (a := t) (xs := xs) (fun j σ H' => ∃ y2 y3 : Option V, σ = [some (.ref p), some v, y2, y3, none] ∧ LamX.ExtN H3 H' ∧ LamX.Tabs [(Pt, qRef T s cl)] H')
      ⟨_, _, rfl, .refl _, T3⟩ (fun j σ H' _ ⟨_, _, _, eN, _⟩ => .of (eN _ _ ht (fun ps z => nomatch z))) ?_ ?_
    · rintro j u σ H4 hu ⟨y2, y3, rfl, eN, T4⟩
      obtain ⟨te, vt, d, C, e, nm, rfl, h1, h2, h3, href, hC, e1, e2⟩ := (hx u (List.mem_of_getElem? hu)).extN eN
      refine ⟨te, _, rfl, h1, rfl, _, _, rfl, _, _, rfl, rfl, ?_⟩
      have ne : (!decide (V.str (nm ++ (PyData.int e).shown) = V.str (nm ++ toString e))) = false := str_ne _
      refine ⟨T4, fun H5 eN5 T5 => ?_⟩
      refine ⟨_, rfl, vt, .int 0, rfl, .inl ⟨d, C, e, Dp.extN eN5 h2, href, fun dx H6 hdx hd6 e6 => ⟨nm, C, dx, .int e, .int e, rfl, hC.elim (fun z => .inl z) (fun z => .inr (.inl z)), rfl, hd6, .int e, (show_int ⟨e1, e2⟩).1, (show_int ⟨e1, e2⟩).2, ?_⟩⟩⟩
      refine ⟨_, rfl, rfl, _, rfl, ?_⟩
      rw [ne]
      have eN6 := (eN.trans eN5).trans (ext_toN e6)
      have h26 := Dp.ext0 e6 (Dp.extN eN5 h2)
      refine iteF ⟨T5.ext e6.toSame, fun H7 eN7 T7 => ?_⟩
      refine ⟨_, rfl, vt, d, C, e, rfl, Dp.extN eN7 h26, href, fun dx H8 hdx hd8 e8 => ⟨nm, C, dx, .int e, .int e, rfl, hC.elim (fun z => .inl z) (fun z => .inr (.inl z)), rfl, hd8, .int e, (show_int ⟨e1, e2⟩).1, (show_int ⟨e1, e2⟩).2, ?_⟩⟩
      refine ⟨_, rfl, rfl, _, rfl, ?_⟩
      rw [ne]
      have eN8 := (eN6.trans eN7).trans (ext_toN e8)
      have h28 := Dp.ext0 e8 (Dp.extN eN7 h26)
      refine iteF ⟨T7.ext e8.toSame, fun H9 eN9 T9 => ?_⟩
      refine ⟨_, rfl, vt, d, C, e, rfl, Dp.extN eN9 h28, href, fun dx Ha hdx hda ea => ⟨nm, C, dx, .int e, .int e, rfl, hC.elim (fun z => .inl z) (fun z => .inr (.inl z)), rfl, hda, .int e, (show_int ⟨e1, e2⟩).1, (show_int ⟨e1, e2⟩).2, ?_⟩⟩
      refine ⟨_, rfl, rfl, _, rfl, ?_⟩
      rw [ne]
      exact iteF ⟨_, _, rfl, (eN8.trans eN9).trans (ext_toN ea), T9.ext ea.toSame⟩
    · rintro σ H4 ⟨y2, y3, rfl, eN, T4⟩
      have P4 := P3.extN eN
      have hb4 := hb3.extN eN
      refine ⟨rfl, fun t xs H5 ht hds e5 => ⟨1, rfl, t, xs, rfl, .of ht, fun p2 hp2 => ⟨p2, rfl, ⟨_, .of upd_same⟩, fun D hD => ?_⟩⟩⟩
      rw [cutDrop] at hD ⊢
      have e6 : Ext [] H5 (upd H5 p2 (.lst (xs.drop 1))) := .new hp2
      have hds6 := dpAll_drop 1 (DpAll.ext0 e6 hds)
      have ht6 : upd H5 p2 (.lst (xs.drop 1)) p2 = some (.lst (xs.drop 1)) := upd_same
      have T6 := (T4.ext e5.toSame).ext e6.toSame
      have P6 := (P4.ext0 e5).ext0 e6
      have hb6 := (hb4.ext0 e5).ext0 e6
      generalize upd H5 p2 (.lst (xs.drop 1)) = H6 at *
      have eD : Ext [] H6 (upd H6 D (.lst [])) := .new hD
      refine lc_list (K := K) (a := p2) (xs := xs.drop 1) (fun j H' => H' D = some (.lst []) ∧ LamX.ExtN (upd H6 D (.lst [])) H' ∧ LamX.Tabs [(Pt, qRef T s cl)] H')
        ⟨upd_same, .refl _, T6.ext eD.toSame⟩ (fun j H' _ ⟨_, eN, _⟩ => .of (eN _ _ (eD.at ht6 (by simp)) (fun ps z => nomatch z))) ?_ ?_
      · rintro j u H7 hu ⟨hD7, eN7, T7⟩
        obtain ⟨dj, hdj, hDj⟩ := dpAll_get' (DpAll.extN eN7 (DpAll.ext0 eD hds6)) hu
        have hw := wins_bad1 dj (List.mem_of_getElem? hdj)
        refine ⟨rfl, fun x H' => x = false ∧ H' D = some (.lst []) ∧ LamX.ExtN (upd H6 D (.lst [])) H' ∧ LamX.Tabs [(Pt, qRef T s cl)] H', ?_, ?_⟩
        · refine ⟨T7, fun H8 eN8 T8 => ?_⟩
          have hb8 := ((hb6.ext0 eD).extN eN7).extN eN8
          refine ⟨_, rfl, _, rfl, v, u, rfl, .inr ⟨b, dj, hb8, ok, Dp.extN eN8 hDj, hw, fun dx H9 hdx hd9 e9 => ⟨"BadWindow ", _, dx, .int 0, .int 0, rfl, .inr (.inr ⟨rfl, rfl⟩), rfl, hd9, .int 0, (show_int ⟨by decide, by decide⟩).1, (show_int ⟨by decide, by decide⟩).2, ?_⟩⟩⟩
          refine ⟨rfl, _, rfl, ?_, e9.at (eN8 _ _ hD7 (fun ps z => nomatch z)) (by simp), (eN7.trans eN8).trans (ext_toN e9), T8.ext e9.toSame⟩
          have : (Str.ofString "BadWindow " ++ (PyData.int 0).shown) = Str.ofString "BadWindow 0" := by decide +kernel
          rw [this]
          exact str_ne _
        · rintro x H9 ⟨rfl, h9⟩
          exact iteF h9
      · rintro H7 ⟨hD7, eN7, T7⟩
        refine ⟨Nat.zero_le _, fun z hz => ?_⟩
        have e8 : Ext [] H7 (upd H7 z (.lst [])) := .new hz
        refine ⟨.list [], .list [], .lst (.of (e8.at hD7 (by simp))) .nil, .lst (.of upd_same) .nil, by decide, by decide, ?_⟩
        have ev : PyData.eqv (.list []) (.list []) = true := by decide
        rw [ev]
        exact q _ (((P6.ext0 eD).extN eN7).ext0 e8)
def spLaw (K : PySem.W.Frag) (P : Addr) : Sp := fun vs H Q _ => ∃ (a : Addr) (ns : List Int), vs = [.ref a] ∧ SqL K H a (ns.map V.int) ∧ ns.length ≤ 63 ∧ H P = some (.tbl #[]) ∧ ∀ H', Q (.bl true) H'
theorem sc_law : FnScope ["script", "pool", "is_great", "book", "way"] ["script"] (defScope s_law) := ⟨rfl, rfl, rfl, by decide +kernel, rfl, by decide +kernel, by decide +kernel⟩
theorem ok_law (T : Tx K mg) {cl Pt : Addr} {kV doc pm ct oc : Value} {an od : Option Addr} {osl : Array (Option Value)}
    (lk : K.lookup T.law_refused.f = some ⟨oc, od, .func (PySem.W.fnOf "_law_refused" "_law_refused" (defArgs s_law_refused) (defBody s_law_refused) (defScope s_law_refused) .none kV doc pm an (.ref cl) ct), osl⟩) (cd : PySem.W.codeIn K (.ref cl) "_law_refused" = true) (TB : LamX.TabB base mg cl Pt) :
    FnG P w K mg base CX0 12 T.law.f T.law.fd ["script"] (spLaw K Pt) := by
  refine FunG.ok T.law.F sc_law (fun vs H Q E h => ?_) (fun cdv A outer s H vs Q E hG hr h => ?_)
  · obtain ⟨a, ns, rfl, _⟩ := h; rfl
  · obtain ⟨sa, ns, rfl, hs, hn, hP, q⟩ := h
    refine ⟨_, (pss_cons (ps_set (i := 1) sc_law.nd rfl (.inl rfl) (pe_call (ok_law_pool T) (hr.mono (by decide)) (by rfl) T.law_pool.g T.law_pool.F.kp T.law_pool.b .nil pass0 (pa_cons (pv 0) pa_nil)))
      (pss_cons (ps_set (i := 2) sc_law.nd rfl (.inl rfl) (pe_cmpR op_gt (pe_ix ix_list (pv 1) pe_int (fun _ _ => rfl)) pe_int (nomark _)))
      (pss_cons (ps_par (i := 3) (j := 4) (by rfl) sc_law.nd rfl rfl (by decide) rfl rfl (pa_cons (pe_call (ok_law_book_drawn T) (hr.mono (by decide)) (by rfl) T.law_book_drawn.g T.law_book_drawn.F.kp T.law_book_drawn.b .nil pass0 (pa_cons (pv 1) (pa_cons (pe_mid (pe_ifExp (pt_val (pv 2)) pe_int pe_int)) (pa_cons (pe_mid (pe_ifExp (pt_val (pv 2)) pe_int pe_int)) pa_nil)))) (pa_cons (pe_call (ok_law_draw T) (hr.mono (by decide)) (by rfl) T.law_draw.g T.law_draw.F.kp T.law_draw.b .nil pass0 (pa_cons (pv 1) (pa_cons pe_int pa_nil))) pa_nil)) (by rfl))
      (pss_cons (ps_if (PW.pt (pw_or (pt_not (pt_val (pe_callG (ok_law_numbers_right T) hG (hr.mono (by decide)) (by rfl) T.law_numbers_right.g T.law_numbers_right.F.kp T.law_numbers_right.b .nil pass0 (pa_cons (pv 1) (pa_cons (pv 3) pa_nil))))) (pw_or1 (pt_not (pt_val (pe_callG (ok_law_refused T lk cd TB) hG (hr.mono (by decide)) (by rfl) T.law_refused.g T.law_refused.F.kp T.law_refused.b .nil pass0 (pa_cons (pv 1) (pa_cons (pv 3) pa_nil))))))))
        (pss_one (ps_ret pe_bl))
        pss_nil)
      (C8.pss_cut (ps_if (PW.pt (pw_and (pt_cmpR op_lt (pv 4) pe_int (nomark _)) (pw_and1 (pt_not (pt_val (pe_callG (ok_law_numbers_right T) hG (hr.mono (by decide)) (by rfl) T.law_numbers_right.g T.law_numbers_right.F.kp T.law_numbers_right.b .nil pass0 (pa_cons (pv 1) (pa_cons (pe_call (ok_law_rayed T) (hr.mono (by decide)) (by rfl) T.law_rayed.g T.law_rayed.F.kp T.law_rayed.b .nil pass0 (pa_cons (pv 1) pa_nil)) pa_nil))))))))
        (pss_one (ps_ret pe_bl))
        pss_nil)
      (pss_one (ps_ret (pe_or (pe_cmpR op_ne (pv 4) pe_int (nomark _)) (pe_one (pe_callG (ok_law_numbers_right T) hG (hr.mono (by decide)) (by rfl) T.law_numbers_right.g T.law_numbers_right.F.kp T.law_numbers_right.b .nil pass0 (pa_cons (pv 1) (pa_cons (pe_call (ok_law_many_rays T) (hr.mono (by decide)) (by rfl) T.law_many_rays.g T.law_many_rays.F.kp T.law_many_rays.b .nil pass0 (pa_cons (pv 1) pa_nil)) pa_nil)))))))))))), ?_⟩
    refine ⟨_, rfl, sa, ns, rfl, hs, hn, fun p l H1 hp hl P1 e1 => ?_⟩
    have P1' := P1
    obtain ⟨npl, x, y, ls0, hp1, hl1, x0, _⟩ := P1'
    refine ⟨_, rfl, p, _, 0, _, rfl, rfl, .of hp1, atI_nat (j := 0) rfl, _, _, rfl, rfl, ?_⟩
    refine ⟨_, rfl, fun v H' => H' = H1 ∧ ∃ S : Nat, v = .int S ∧ 1 ≤ S ∧ S ≤ 8, ⟨_, rfl, _, rfl, ite2 (fun _ => ⟨rfl, 8, rfl, by decide, by decide⟩) (fun _ => ⟨rfl, 4, rfl, by decide, by decide⟩)⟩, ?_⟩
    rintro v H' ⟨rfl, S, rfl, S1, S8⟩
    refine ⟨fun v H2 => H2 = H' ∧ ∃ M : Nat, v = .int M ∧ M ≤ 5, ⟨_, rfl, _, rfl, ite2 (fun _ => ⟨rfl, 5, rfl, by decide⟩) (fun _ => ⟨rfl, 3, rfl, by decide⟩)⟩, ?_⟩
    rintro v H2 ⟨rfl, M, rfl, M5⟩
    have hP1 : H2 Pt = some (.tbl #[]) := e1.at hP (by simp)
    refine ⟨p, l, S, M, rfl, P1, S1, S8, M5, fun b v0 H3 ok _ _ hb P3 e3 => ?_⟩
    have hP3 : H3 Pt = some (.tbl #[]) := e3.at hP1 (P1.not_tbl hP1)
    refine ⟨_, rfl, p, l, 6, rfl, P3, by decide, by decide, fun way H4 w0 w1 P4 e4 => ⟨_, _, rfl, ?_⟩⟩
    have hb4 := hb.ext e4 P3.lsts
    have hP4 : H4 Pt = some (.tbl #[]) := e4.at hP3 (P3.not_tbl hP3)
    refine ⟨_, rfl, _, rfl, p, l, v0, b, rfl, P4, hb4, ok, fun H5 P5 e5 => ⟨true, rfl, iteF ?_⟩⟩
    refine ⟨_, rfl, _, rfl, p, l, v0, b, rfl, P5, hb4.ext e5 P4.lsts, ok, e5.at hP4 (P4.not_tbl hP4), fun H6 P6 => ⟨true, rfl, iteF ?_⟩⟩
    refine ⟨fun σ H' => (∃ y0 y2 y3 : Option V, σ = [y0, some (.ref p), y2, y3, some (.int way)]) ∧ PoolAt H' p l, ?_, ?_⟩
    · refine ⟨_, rfl, _, _, rfl, rfl, _, rfl, ite2 (fun _ => ?_) (fun _ => iteF ⟨⟨_, _, _, rfl⟩, P6⟩)⟩
      refine ⟨_, rfl, _, rfl, p, l, rfl, P6, fun b7 v7 H7 ok7 hb7 P7 _ => ?_⟩
      exact ⟨p, l, v7, b7, rfl, P7, hb7, ok7, fun H8 P8 _ => ⟨true, rfl, iteF ⟨⟨_, _, _, rfl⟩, P8⟩⟩⟩
    · rintro σ H7 ⟨⟨y0, y2, y3, rfl⟩, P7⟩
      refine ⟨_, rfl, rfl, _, rfl, ?_⟩
      by_cases h3 : V.int way = V.int 3
      · rw [decide_eq_true h3]
        refine iteF ⟨_, rfl, _, rfl, p, l, rfl, P7, fun b8 v8 H8 ok8 hb8 P8 _ => ⟨p, l, v8, b8, rfl, P8, hb8, ok8, fun H9 _ _ => q H9⟩⟩
      · rw [decide_eq_false h3]
        exact iteT (q _)
end
end Nv
namespace Nv
open PySem PySem.Spec PyProof.Rows L2
section
variable {K : PySem.W.Frag} {mg : Str → Option Value} {h : Heap}
def mkDef {name : Str} {st : Stmt} {ps : List Str} {f : Addr} {oc : Value} {od an : Option Addr} {osl : Array (Option Value)} {kV doc pm cdv ct : Value} (X : K.In h) (G : h.Ns mainGlobals mg)
    (a : PySem.W.nsIn K mainGlobals name = some (some (.ref f))) (l : K.lookup f = some ⟨oc, od, .func (PySem.W.fnOf name name (defArgs st) (defBody st) (defScope st) .none kV doc pm an cdv ct), osl⟩)
    (c : PySem.W.codeIn K cdv name = true) (k : PySem.W.keepIn K (.ref f) = true)
    (b : ∀ (kV doc pm : Value) (an : Option Addr) (cdv ct : Value) (us : List Value), us.length = ps.length → bindArgs (PySem.W.fnOf name name (defArgs st) (defBody st) (defScope st) .none kV doc pm an cdv ct) ⟨us, []⟩ = pure (ps.zip us)) : DefAt K mg name st ps :=
  ⟨f, _, fun_mk l c k, PySem.W.mg_of X G a, b kV doc pm an cdv ct⟩
def mkDefD {name : Str} {st : Stmt} {ps : List Str} {v : V} {u : Value} (r : RelV v u) {f dT : Addr} {oc doc1 : Value} {od an dod : Option Addr} {osl dsl : Array (Option Value)} {dn : Nat} {kV doc pm cdv ct : Value} (X : K.In h) (G : h.Ns mainGlobals mg)
    (a : PySem.W.nsIn K mainGlobals name = some (some (.ref f))) (l : K.lookup f = some ⟨oc, od, .func (PySem.W.fnOf name name (defArgs st) (defBody st) (defScope st) (.ref dT) kV doc pm an cdv ct), osl⟩)
    (c : PySem.W.codeIn K cdv name = true) (k : PySem.W.keepIn K (.ref f) = true) (d : K.lookup dT = some ⟨doc1, dod, .seq #[u] dn, dsl⟩) (n : Nat) (hn : n + 1 = ps.length)
    (b : ∀ (T : Addr) (kV doc pm : Value) (an : Option Addr) (cdv ct : Value) (us its : List Value), us.length = n → its.length = 1 →
      ∃ k, bindArgs (PySem.W.fnOf name name (defArgs st) (defBody st) (defScope st) (.ref T) kV doc pm an cdv ct) ⟨us, []⟩ = seqItems? (.ref T) >>= k ∧ k (some its.toArray) = pure (ps.zip (us ++ its.drop 0)))
    (b1 : ∀ (T : Addr) (kV doc pm : Value) (an : Option Addr) (cdv ct : Value) (us its : List Value), us.length = n + 1 → its.length = 1 →
      ∃ k, bindArgs (PySem.W.fnOf name name (defArgs st) (defBody st) (defScope st) (.ref T) kV doc pm an cdv ct) ⟨us, []⟩ = seqItems? (.ref T) >>= k ∧ k (some its.toArray) = pure (ps.zip (us ++ its.drop 1))) : DefAtD K mg name st ps [v] := by
  have F : FunD K name name (defArgs st) (defBody st) (defScope st) [v] [] f _ := ⟨⟨oc, od, .ref dT, kV, doc, pm, an, cdv, ct, osl, rfl, l, c, .inr ⟨by nofun, dT, _, [u], dn, rfl, d, rfl, .cons r .nil⟩, .inl rfl⟩, k⟩
  refine ⟨f, _, ⟨F⟩, PySem.W.mg_of X G a, ?_, F.binds1 n 0 (by nofun) (by simpa using hn) b⟩
  obtain ⟨ds, hv, hb⟩ := F.binds1 (n + 1) 1 (by nofun) (by simpa using hn) b1
  cases hv
  exact hb
end

set_option maxHeartbeats 0 in
theorem all_mk {l : PySem.W.OpenLaw} {w : World} {K : PySem.W.Frag} {h : Heap} {mg : Str → Option Value} {fa : Addr} (X : K.In h) (G : h.Ns mainGlobals mg) (hfa : mg "law" = some (.ref fa))
    {f0 : Addr} {oc0 kV0 dc0 pm0 cd0 ct0 : Value} {od0 an0 : Option Addr} {sl0 : Array (Option Value)}
    {f1 : Addr} {oc1 kV1 dc1 pm1 cd1 ct1 : Value} {od1 an1 : Option Addr} {sl1 : Array (Option Value)}
    {f2 : Addr} {oc2 kV2 dc2 pm2 cd2 ct2 : Value} {od2 an2 : Option Addr} {sl2 : Array (Option Value)}
    {f3 : Addr} {oc3 kV3 dc3 pm3 cd3 ct3 : Value} {od3 an3 : Option Addr} {sl3 : Array (Option Value)} {zT3 : Addr} {zc3 : Value} {zo3 : Option Addr} {zs3 : Array (Option Value)} {zn3 : Nat} {zk3 : Tok}
    {f4 : Addr} {oc4 kV4 dc4 pm4 cd4 ct4 : Value} {od4 an4 : Option Addr} {sl4 : Array (Option Value)}
    {f5 : Addr} {oc5 kV5 dc5 pm5 cd5 ct5 : Value} {od5 an5 : Option Addr} {sl5 : Array (Option Value)}
    {f6 : Addr} {oc6 kV6 dc6 pm6 cd6 ct6 : Value} {od6 an6 : Option Addr} {sl6 : Array (Option Value)}
    {f7 : Addr} {oc7 kV7 dc7 pm7 cd7 ct7 : Value} {od7 an7 : Option Addr} {sl7 : Array (Option Value)}
    {f8 : Addr} {oc8 kV8 dc8 pm8 cd8 ct8 : Value} {od8 an8 : Option Addr} {sl8 : Array (Option Value)}
    {f9 : Addr} {oc9 kV9 dc9 pm9 cd9 ct9 : Value} {od9 an9 : Option Addr} {sl9 : Array (Option Value)}
    {f10 : Addr} {oc10 kV10 dc10 pm10 cd10 ct10 : Value} {od10 an10 : Option Addr} {sl10 : Array (Option Value)}
    {f11 : Addr} {oc11 kV11 dc11 pm11 cd11 ct11 : Value} {od11 an11 : Option Addr} {sl11 : Array (Option Value)}
    {f12 : Addr} {oc12 kV12 dc12 pm12 cd12 ct12 : Value} {od12 an12 : Option Addr} {sl12 : Array (Option Value)}
    {f13 : Addr} {oc13 kV13 dc13 pm13 cd13 ct13 : Value} {od13 an13 : Option Addr} {sl13 : Array (Option Value)}
    {f14 : Addr} {oc14 kV14 dc14 pm14 cd14 ct14 : Value} {od14 an14 : Option Addr} {sl14 : Array (Option Value)}
    {f15 : Addr} {oc15 kV15 dc15 pm15 cd15 ct15 : Value} {od15 an15 : Option Addr} {sl15 : Array (Option Value)}
    {f16 : Addr} {oc16 kV16 dc16 pm16 cd16 ct16 : Value} {od16 an16 : Option Addr} {sl16 : Array (Option Value)}
    {f17 : Addr} {oc17 kV17 dc17 pm17 cd17 ct17 : Value} {od17 an17 : Option Addr} {sl17 : Array (Option Value)}
    {f18 : Addr} {oc18 kV18 dc18 pm18 cd18 ct18 : Value} {od18 an18 : Option Addr} {sl18 : Array (Option Value)}
    {f19 : Addr} {oc19 kV19 dc19 pm19 cd19 ct19 : Value} {od19 an19 : Option Addr} {sl19 : Array (Option Value)}
    {f20 : Addr} {oc20 kV20 dc20 pm20 cd20 ct20 : Value} {od20 an20 : Option Addr} {sl20 : Array (Option Value)}
    {f21 : Addr} {oc21 kV21 dc21 pm21 cd21 ct21 : Value} {od21 an21 : Option Addr} {sl21 : Array (Option Value)}
    {f22 : Addr} {oc22 kV22 dc22 pm22 cd22 ct22 : Value} {od22 an22 : Option Addr} {sl22 : Array (Option Value)}
    {f23 : Addr} {oc23 kV23 dc23 pm23 cd23 ct23 : Value} {od23 an23 : Option Addr} {sl23 : Array (Option Value)}
    {f24 : Addr} {oc24 kV24 dc24 pm24 cd24 ct24 : Value} {od24 an24 : Option Addr} {sl24 : Array (Option Value)}
    {f25 : Addr} {oc25 kV25 dc25 pm25 cd25 ct25 : Value} {od25 an25 : Option Addr} {sl25 : Array (Option Value)}
    {f26 : Addr} {oc26 kV26 dc26 pm26 cd26 ct26 : Value} {od26 an26 : Option Addr} {sl26 : Array (Option Value)}
    {f27 : Addr} {oc27 kV27 dc27 pm27 cd27 ct27 : Value} {od27 an27 : Option Addr} {sl27 : Array (Option Value)}
    {f28 : Addr} {oc28 kV28 dc28 pm28 cd28 ct28 : Value} {od28 an28 : Option Addr} {sl28 : Array (Option Value)}
    {f29 : Addr} {oc29 kV29 dc29 pm29 cd29 ct29 : Value} {od29 an29 : Option Addr} {sl29 : Array (Option Value)}
    {f30 : Addr} {oc30 kV30 dc30 pm30 cd30 ct30 : Value} {od30 an30 : Option Addr} {sl30 : Array (Option Value)}
    {f31 : Addr} {oc31 kV31 dc31 pm31 cd31 ct31 : Value} {od31 an31 : Option Addr} {sl31 : Array (Option Value)}
    {f32 : Addr} {oc32 kV32 dc32 pm32 cd32 ct32 : Value} {od32 an32 : Option Addr} {sl32 : Array (Option Value)}
    {f33 : Addr} {oc33 kV33 dc33 pm33 cd33 ct33 : Value} {od33 an33 : Option Addr} {sl33 : Array (Option Value)}
    {f34 : Addr} {oc34 kV34 dc34 pm34 cd34 ct34 : Value} {od34 an34 : Option Addr} {sl34 : Array (Option Value)}
    {f35 : Addr} {oc35 kV35 dc35 pm35 cd35 ct35 : Value} {od35 an35 : Option Addr} {sl35 : Array (Option Value)}
    {f36 : Addr} {oc36 kV36 dc36 pm36 cd36 ct36 : Value} {od36 an36 : Option Addr} {sl36 : Array (Option Value)}
    {f37 : Addr} {oc37 kV37 dc37 pm37 cd37 ct37 : Value} {od37 an37 : Option Addr} {sl37 : Array (Option Value)}
    {f38 : Addr} {oc38 kV38 dc38 pm38 cd38 ct38 : Value} {od38 an38 : Option Addr} {sl38 : Array (Option Value)}
    {f39 : Addr} {oc39 kV39 dc39 pm39 cd39 ct39 : Value} {od39 an39 : Option Addr} {sl39 : Array (Option Value)}
    {f40 : Addr} {oc40 kV40 dc40 pm40 cd40 ct40 : Value} {od40 an40 : Option Addr} {sl40 : Array (Option Value)}
    {f41 : Addr} {oc41 kV41 dc41 pm41 cd41 ct41 : Value} {od41 an41 : Option Addr} {sl41 : Array (Option Value)}
    {f42 : Addr} {oc42 kV42 dc42 pm42 cd42 ct42 : Value} {od42 an42 : Option Addr} {sl42 : Array (Option Value)}
    {f43 : Addr} {oc43 kV43 dc43 pm43 ct43 : Value} {od43 an43 : Option Addr} {sl43 : Array (Option Value)} {cL pL : Addr}
    {f44 : Addr} {oc44 kV44 dc44 pm44 cd44 ct44 : Value} {od44 an44 : Option Addr} {sl44 : Array (Option Value)}
    {fI : Addr} {ocI kVI dcI pmI cdI ctI : Value} {odI anI : Option Addr} {slI : Array (Option Value)}
    {C0 R0 N0 : Addr} {nm0 q0 : Str} {bs0 : List Value} {sn0 : List Str} {sub0 : List Value} {ab0 : Bool} {col0 : Option Bool} {dd0 : Option Addr} {m00 m10 m30 m50 : Option Value} {mt0 : Tok}
    {C1 R1 N1 : Addr} {nm1 q1 : Str} {bs1 : List Value} {sn1 : List Str} {sub1 : List Value} {ab1 : Bool} {col1 : Option Bool} {dd1 : Option Addr} {m01 m11 m31 m51 : Option Value} {mt1 : Tok}
    {C2 R2 N2 : Addr} {nm2 q2 : Str} {bs2 : List Value} {sn2 : List Str} {sub2 : List Value} {ab2 : Bool} {col2 : Option Bool} {dd2 : Option Addr} {m02 m12 m32 m52 : Option Value} {mt2 : Tok}
    {C3 R3 N3 : Addr} {nm3 q3 : Str} {bs3 : List Value} {sn3 : List Str} {sub3 : List Value} {ab3 : Bool} {col3 : Option Bool} {dd3 : Option Addr} {m03 m13 m33 m53 : Option Value} {mt3 : Tok}
    {C4 R4 N4 : Addr} {nm4 q4 : Str} {bs4 : List Value} {sn4 : List Str} {sub4 : List Value} {ab4 : Bool} {col4 : Option Bool} {dd4 : Option Addr} {m04 m14 m34 m54 : Option Value} {mt4 : Tok}
    {C5 R5 N5 : Addr} {nm5 q5 : Str} {bs5 : List Value} {sn5 : List Str} {sub5 : List Value} {ab5 : Bool} {col5 : Option Bool} {dd5 : Option Addr} {m05 m15 m35 m55 : Option Value} {mt5 : Tok}
    {C6 R6 N6 : Addr} {nm6 q6 : Str} {bs6 : List Value} {sn6 : List Str} {sub6 : List Value} {ab6 : Bool} {col6 : Option Bool} {dd6 : Option Addr} {m06 m16 m36 m56 : Option Value} {mt6 : Tok}
    {C7 R7 N7 : Addr} {nm7 q7 : Str} {bs7 : List Value} {sn7 : List Str} {sub7 : List Value} {ab7 : Bool} {col7 : Option Bool} {dd7 : Option Addr} {m07 m17 m37 m57 : Option Value} {mt7 : Tok}
    {C8 R8 N8 : Addr} {nm8 q8 : Str} {bs8 : List Value} {sn8 : List Str} {sub8 : List Value} {ab8 : Bool} {col8 : Option Bool} {dd8 : Option Addr} {m08 m18 m38 m58 : Option Value} {mt8 : Tok}
    {t0 : Tok}
    {t1 : Tok}
    {t2 : Tok}
    {t3 : Tok}
    (a0 : PySem.W.nsIn K mainGlobals "whole" = some (some (.ref f0))) (l0 : K.lookup f0 = some ⟨oc0, od0, .func (PySem.W.fnOf "whole" "whole" (defArgs s_whole) (defBody s_whole) (defScope s_whole) .none kV0 dc0 pm0 an0 cd0 ct0), sl0⟩) (c0 : PySem.W.codeIn K cd0 "whole" = true) (k0 : PySem.W.keepIn K (.ref f0) = true)
    (a1 : PySem.W.nsIn K mainGlobals "whole_within" = some (some (.ref f1))) (l1 : K.lookup f1 = some ⟨oc1, od1, .func (PySem.W.fnOf "whole_within" "whole_within" (defArgs s_whole_within) (defBody s_whole_within) (defScope s_whole_within) .none kV1 dc1 pm1 an1 cd1 ct1), sl1⟩) (c1 : PySem.W.codeIn K cd1 "whole_within" = true) (k1 : PySem.W.keepIn K (.ref f1) = true)
    (a2 : PySem.W.nsIn K mainGlobals "tuple_within" = some (some (.ref f2))) (l2 : K.lookup f2 = some ⟨oc2, od2, .func (PySem.W.fnOf "tuple_within" "tuple_within" (defArgs s_tuple_within) (defBody s_tuple_within) (defScope s_tuple_within) .none kV2 dc2 pm2 an2 cd2 ct2), sl2⟩) (c2 : PySem.W.codeIn K cd2 "tuple_within" = true) (k2 : PySem.W.keepIn K (.ref f2) = true)
    (a3 : PySem.W.nsIn K mainGlobals "first_rows" = some (some (.ref f3))) (l3 : K.lookup f3 = some ⟨oc3, od3, .func (PySem.W.fnOf "first_rows" "first_rows" (defArgs s_first_rows) (defBody s_first_rows) (defScope s_first_rows) (.ref zT3) kV3 dc3 pm3 an3 cd3 ct3), sl3⟩) (c3 : PySem.W.codeIn K cd3 "first_rows" = true) (k3 : PySem.W.keepIn K (.ref f3) = true)
    (df3 : K.lookup zT3 = some ⟨zc3, zo3, .seq #[.int 0 zk3] zn3, zs3⟩)
    (a4 : PySem.W.nsIn K mainGlobals "made_book" = some (some (.ref f4))) (l4 : K.lookup f4 = some ⟨oc4, od4, .func (PySem.W.fnOf "made_book" "made_book" (defArgs s_made_book) (defBody s_made_book) (defScope s_made_book) .none kV4 dc4 pm4 an4 cd4 ct4), sl4⟩) (c4 : PySem.W.codeIn K cd4 "made_book" = true) (k4 : PySem.W.keepIn K (.ref f4) = true)
    (a5 : PySem.W.nsIn K mainGlobals "check_form" = some (some (.ref f5))) (l5 : K.lookup f5 = some ⟨oc5, od5, .func (PySem.W.fnOf "check_form" "check_form" (defArgs s_check_form) (defBody s_check_form) (defScope s_check_form) .none kV5 dc5 pm5 an5 cd5 ct5), sl5⟩) (c5 : PySem.W.codeIn K cd5 "check_form" = true) (k5 : PySem.W.keepIn K (.ref f5) = true)
    (a6 : PySem.W.nsIn K mainGlobals "has_state_form" = some (some (.ref f6))) (l6 : K.lookup f6 = some ⟨oc6, od6, .func (PySem.W.fnOf "has_state_form" "has_state_form" (defArgs s_has_state_form) (defBody s_has_state_form) (defScope s_has_state_form) .none kV6 dc6 pm6 an6 cd6 ct6), sl6⟩) (c6 : PySem.W.codeIn K cd6 "has_state_form" = true) (k6 : PySem.W.keepIn K (.ref f6) = true)
    (a7 : PySem.W.nsIn K mainGlobals "fork_states" = some (some (.ref f7))) (l7 : K.lookup f7 = some ⟨oc7, od7, .func (PySem.W.fnOf "fork_states" "fork_states" (defArgs s_fork_states) (defBody s_fork_states) (defScope s_fork_states) .none kV7 dc7 pm7 an7 cd7 ct7), sl7⟩) (c7 : PySem.W.codeIn K cd7 "fork_states" = true) (k7 : PySem.W.keepIn K (.ref f7) = true)
    (a8 : PySem.W.nsIn K mainGlobals "led_to" = some (some (.ref f8))) (l8 : K.lookup f8 = some ⟨oc8, od8, .func (PySem.W.fnOf "led_to" "led_to" (defArgs s_led_to) (defBody s_led_to) (defScope s_led_to) .none kV8 dc8 pm8 an8 cd8 ct8), sl8⟩) (c8 : PySem.W.codeIn K cd8 "led_to" = true) (k8 : PySem.W.keepIn K (.ref f8) = true)
    (a9 : PySem.W.nsIn K mainGlobals "reach" = some (some (.ref f9))) (l9 : K.lookup f9 = some ⟨oc9, od9, .func (PySem.W.fnOf "reach" "reach" (defArgs s_reach) (defBody s_reach) (defScope s_reach) .none kV9 dc9 pm9 an9 cd9 ct9), sl9⟩) (c9 : PySem.W.codeIn K cd9 "reach" = true) (k9 : PySem.W.keepIn K (.ref f9) = true)
    (a10 : PySem.W.nsIn K mainGlobals "ways_back" = some (some (.ref f10))) (l10 : K.lookup f10 = some ⟨oc10, od10, .func (PySem.W.fnOf "ways_back" "ways_back" (defArgs s_ways_back) (defBody s_ways_back) (defScope s_ways_back) .none kV10 dc10 pm10 an10 cd10 ct10), sl10⟩) (c10 : PySem.W.codeIn K cd10 "ways_back" = true) (k10 : PySem.W.keepIn K (.ref f10) = true)
    (a11 : PySem.W.nsIn K mainGlobals "ring_states" = some (some (.ref f11))) (l11 : K.lookup f11 = some ⟨oc11, od11, .func (PySem.W.fnOf "ring_states" "ring_states" (defArgs s_ring_states) (defBody s_ring_states) (defScope s_ring_states) .none kV11 dc11 pm11 an11 cd11 ct11), sl11⟩) (c11 : PySem.W.codeIn K cd11 "ring_states" = true) (k11 : PySem.W.keepIn K (.ref f11) = true)
    (a12 : PySem.W.nsIn K mainGlobals "forks_on_rings" = some (some (.ref f12))) (l12 : K.lookup f12 = some ⟨oc12, od12, .func (PySem.W.fnOf "forks_on_rings" "forks_on_rings" (defArgs s_forks_on_rings) (defBody s_forks_on_rings) (defScope s_forks_on_rings) .none kV12 dc12 pm12 an12 cd12 ct12), sl12⟩) (c12 : PySem.W.codeIn K cd12 "forks_on_rings" = true) (k12 : PySem.W.keepIn K (.ref f12) = true)
    (a13 : PySem.W.nsIn K mainGlobals "made_window" = some (some (.ref f13))) (l13 : K.lookup f13 = some ⟨oc13, od13, .func (PySem.W.fnOf "made_window" "made_window" (defArgs s_made_window) (defBody s_made_window) (defScope s_made_window) .none kV13 dc13 pm13 an13 cd13 ct13), sl13⟩) (c13 : PySem.W.codeIn K cd13 "made_window" = true) (k13 : PySem.W.keepIn K (.ref f13) = true)
    (a14 : PySem.W.nsIn K mainGlobals "leading_to" = some (some (.ref f14))) (l14 : K.lookup f14 = some ⟨oc14, od14, .func (PySem.W.fnOf "leading_to" "leading_to" (defArgs s_leading_to) (defBody s_leading_to) (defScope s_leading_to) .none kV14 dc14 pm14 an14 cd14 ct14), sl14⟩) (c14 : PySem.W.codeIn K cd14 "leading_to" = true) (k14 : PySem.W.keepIn K (.ref f14) = true)
    (a15 : PySem.W.nsIn K mainGlobals "ranks_for" = some (some (.ref f15))) (l15 : K.lookup f15 = some ⟨oc15, od15, .func (PySem.W.fnOf "ranks_for" "ranks_for" (defArgs s_ranks_for) (defBody s_ranks_for) (defScope s_ranks_for) .none kV15 dc15 pm15 an15 cd15 ct15), sl15⟩) (c15 : PySem.W.codeIn K cd15 "ranks_for" = true) (k15 : PySem.W.keepIn K (.ref f15) = true)
    (a16 : PySem.W.nsIn K mainGlobals "lasting_for" = some (some (.ref f16))) (l16 : K.lookup f16 = some ⟨oc16, od16, .func (PySem.W.fnOf "lasting_for" "lasting_for" (defArgs s_lasting_for) (defBody s_lasting_for) (defScope s_lasting_for) .none kV16 dc16 pm16 an16 cd16 ct16), sl16⟩) (c16 : PySem.W.codeIn K cd16 "lasting_for" = true) (k16 : PySem.W.keepIn K (.ref f16) = true)
    (a17 : PySem.W.nsIn K mainGlobals "least_wires" = some (some (.ref f17))) (l17 : K.lookup f17 = some ⟨oc17, od17, .func (PySem.W.fnOf "least_wires" "least_wires" (defArgs s_least_wires) (defBody s_least_wires) (defScope s_least_wires) .none kV17 dc17 pm17 an17 cd17 ct17), sl17⟩) (c17 : PySem.W.codeIn K cd17 "least_wires" = true) (k17 : PySem.W.keepIn K (.ref f17) = true)
    (a18 : PySem.W.nsIn K mainGlobals "from_window" = some (some (.ref f18))) (l18 : K.lookup f18 = some ⟨oc18, od18, .func (PySem.W.fnOf "from_window" "from_window" (defArgs s_from_window) (defBody s_from_window) (defScope s_from_window) .none kV18 dc18 pm18 an18 cd18 ct18), sl18⟩) (c18 : PySem.W.codeIn K cd18 "from_window" = true) (k18 : PySem.W.keepIn K (.ref f18) = true)
    (a19 : PySem.W.nsIn K mainGlobals "verdict" = some (some (.ref f19))) (l19 : K.lookup f19 = some ⟨oc19, od19, .func (PySem.W.fnOf "verdict" "verdict" (defArgs s_verdict) (defBody s_verdict) (defScope s_verdict) .none kV19 dc19 pm19 an19 cd19 ct19), sl19⟩) (c19 : PySem.W.codeIn K cd19 "verdict" = true) (k19 : PySem.W.keepIn K (.ref f19) = true)
    (a20 : PySem.W.nsIn K mainGlobals "least_for" = some (some (.ref f20))) (l20 : K.lookup f20 = some ⟨oc20, od20, .func (PySem.W.fnOf "least_for" "least_for" (defArgs s_least_for) (defBody s_least_for) (defScope s_least_for) .none kV20 dc20 pm20 an20 cd20 ct20), sl20⟩) (c20 : PySem.W.codeIn K cd20 "least_for" = true) (k20 : PySem.W.keepIn K (.ref f20) = true)
    (a21 : PySem.W.nsIn K mainGlobals "least_free" = some (some (.ref f21))) (l21 : K.lookup f21 = some ⟨oc21, od21, .func (PySem.W.fnOf "least_free" "least_free" (defArgs s_least_free) (defBody s_least_free) (defScope s_least_free) .none kV21 dc21 pm21 an21 cd21 ct21), sl21⟩) (c21 : PySem.W.codeIn K cd21 "least_free" = true) (k21 : PySem.W.keepIn K (.ref f21) = true)
    (a22 : PySem.W.nsIn K mainGlobals "ray_counts" = some (some (.ref f22))) (l22 : K.lookup f22 = some ⟨oc22, od22, .func (PySem.W.fnOf "ray_counts" "ray_counts" (defArgs s_ray_counts) (defBody s_ray_counts) (defScope s_ray_counts) .none kV22 dc22 pm22 an22 cd22 ct22), sl22⟩) (c22 : PySem.W.codeIn K cd22 "ray_counts" = true) (k22 : PySem.W.keepIn K (.ref f22) = true)
    (a23 : PySem.W.nsIn K mainGlobals "_law_pool" = some (some (.ref f23))) (l23 : K.lookup f23 = some ⟨oc23, od23, .func (PySem.W.fnOf "_law_pool" "_law_pool" (defArgs s_law_pool) (defBody s_law_pool) (defScope s_law_pool) .none kV23 dc23 pm23 an23 cd23 ct23), sl23⟩) (c23 : PySem.W.codeIn K cd23 "_law_pool" = true) (k23 : PySem.W.keepIn K (.ref f23) = true)
    (a24 : PySem.W.nsIn K mainGlobals "_law_draw" = some (some (.ref f24))) (l24 : K.lookup f24 = some ⟨oc24, od24, .func (PySem.W.fnOf "_law_draw" "_law_draw" (defArgs s_law_draw) (defBody s_law_draw) (defScope s_law_draw) .none kV24 dc24 pm24 an24 cd24 ct24), sl24⟩) (c24 : PySem.W.codeIn K cd24 "_law_draw" = true) (k24 : PySem.W.keepIn K (.ref f24) = true)
    (a25 : PySem.W.nsIn K mainGlobals "_law_pick" = some (some (.ref f25))) (l25 : K.lookup f25 = some ⟨oc25, od25, .func (PySem.W.fnOf "_law_pick" "_law_pick" (defArgs s_law_pick) (defBody s_law_pick) (defScope s_law_pick) .none kV25 dc25 pm25 an25 cd25 ct25), sl25⟩) (c25 : PySem.W.codeIn K cd25 "_law_pick" = true) (k25 : PySem.W.keepIn K (.ref f25) = true)
    (a26 : PySem.W.nsIn K mainGlobals "_law_book_meeting" = some (some (.ref f26))) (l26 : K.lookup f26 = some ⟨oc26, od26, .func (PySem.W.fnOf "_law_book_meeting" "_law_book_meeting" (defArgs s_law_book_meeting) (defBody s_law_book_meeting) (defScope s_law_book_meeting) .none kV26 dc26 pm26 an26 cd26 ct26), sl26⟩) (c26 : PySem.W.codeIn K cd26 "_law_book_meeting" = true) (k26 : PySem.W.keepIn K (.ref f26) = true)
    (a27 : PySem.W.nsIn K mainGlobals "_law_book_messages" = some (some (.ref f27))) (l27 : K.lookup f27 = some ⟨oc27, od27, .func (PySem.W.fnOf "_law_book_messages" "_law_book_messages" (defArgs s_law_book_messages) (defBody s_law_book_messages) (defScope s_law_book_messages) .none kV27 dc27 pm27 an27 cd27 ct27), sl27⟩) (c27 : PySem.W.codeIn K cd27 "_law_book_messages" = true) (k27 : PySem.W.keepIn K (.ref f27) = true)
    (a28 : PySem.W.nsIn K mainGlobals "_law_book_drawn" = some (some (.ref f28))) (l28 : K.lookup f28 = some ⟨oc28, od28, .func (PySem.W.fnOf "_law_book_drawn" "_law_book_drawn" (defArgs s_law_book_drawn) (defBody s_law_book_drawn) (defScope s_law_book_drawn) .none kV28 dc28 pm28 an28 cd28 ct28), sl28⟩) (c28 : PySem.W.codeIn K cd28 "_law_book_drawn" = true) (k28 : PySem.W.keepIn K (.ref f28) = true)
    (a29 : PySem.W.nsIn K mainGlobals "_law_win_ends" = some (some (.ref f29))) (l29 : K.lookup f29 = some ⟨oc29, od29, .func (PySem.W.fnOf "_law_win_ends" "_law_win_ends" (defArgs s_law_win_ends) (defBody s_law_win_ends) (defScope s_law_win_ends) .none kV29 dc29 pm29 an29 cd29 ct29), sl29⟩) (c29 : PySem.W.codeIn K cd29 "_law_win_ends" = true) (k29 : PySem.W.keepIn K (.ref f29) = true)
    (a30 : PySem.W.nsIn K mainGlobals "_law_win_forks" = some (some (.ref f30))) (l30 : K.lookup f30 = some ⟨oc30, od30, .func (PySem.W.fnOf "_law_win_forks" "_law_win_forks" (defArgs s_law_win_forks) (defBody s_law_win_forks) (defScope s_law_win_forks) .none kV30 dc30 pm30 an30 cd30 ct30), sl30⟩) (c30 : PySem.W.codeIn K cd30 "_law_win_forks" = true) (k30 : PySem.W.keepIn K (.ref f30) = true)
    (a31 : PySem.W.nsIn K mainGlobals "_law_win_ranks" = some (some (.ref f31))) (l31 : K.lookup f31 = some ⟨oc31, od31, .func (PySem.W.fnOf "_law_win_ranks" "_law_win_ranks" (defArgs s_law_win_ranks) (defBody s_law_win_ranks) (defScope s_law_win_ranks) .none kV31 dc31 pm31 an31 cd31 ct31), sl31⟩) (c31 : PySem.W.codeIn K cd31 "_law_win_ranks" = true) (k31 : PySem.W.keepIn K (.ref f31) = true)
    (a32 : PySem.W.nsIn K mainGlobals "_law_win_back" = some (some (.ref f32))) (l32 : K.lookup f32 = some ⟨oc32, od32, .func (PySem.W.fnOf "_law_win_back" "_law_win_back" (defArgs s_law_win_back) (defBody s_law_win_back) (defScope s_law_win_back) .none kV32 dc32 pm32 an32 cd32 ct32), sl32⟩) (c32 : PySem.W.codeIn K cd32 "_law_win_back" = true) (k32 : PySem.W.keepIn K (.ref f32) = true)
    (a33 : PySem.W.nsIn K mainGlobals "_law_win_ring_forks" = some (some (.ref f33))) (l33 : K.lookup f33 = some ⟨oc33, od33, .func (PySem.W.fnOf "_law_win_ring_forks" "_law_win_ring_forks" (defArgs s_law_win_ring_forks) (defBody s_law_win_ring_forks) (defScope s_law_win_ring_forks) .none kV33 dc33 pm33 an33 cd33 ct33), sl33⟩) (c33 : PySem.W.codeIn K cd33 "_law_win_ring_forks" = true) (k33 : PySem.W.keepIn K (.ref f33) = true)
    (a34 : PySem.W.nsIn K mainGlobals "_law_win_rays" = some (some (.ref f34))) (l34 : K.lookup f34 = some ⟨oc34, od34, .func (PySem.W.fnOf "_law_win_rays" "_law_win_rays" (defArgs s_law_win_rays) (defBody s_law_win_rays) (defScope s_law_win_rays) .none kV34 dc34 pm34 an34 cd34 ct34), sl34⟩) (c34 : PySem.W.codeIn K cd34 "_law_win_rays" = true) (k34 : PySem.W.keepIn K (.ref f34) = true)
    (a35 : PySem.W.nsIn K mainGlobals "_law_win_free" = some (some (.ref f35))) (l35 : K.lookup f35 = some ⟨oc35, od35, .func (PySem.W.fnOf "_law_win_free" "_law_win_free" (defArgs s_law_win_free) (defBody s_law_win_free) (defScope s_law_win_free) .none kV35 dc35 pm35 an35 cd35 ct35), sl35⟩) (c35 : PySem.W.codeIn K cd35 "_law_win_free" = true) (k35 : PySem.W.keepIn K (.ref f35) = true)
    (a36 : PySem.W.nsIn K mainGlobals "_law_win_least" = some (some (.ref f36))) (l36 : K.lookup f36 = some ⟨oc36, od36, .func (PySem.W.fnOf "_law_win_least" "_law_win_least" (defArgs s_law_win_least) (defBody s_law_win_least) (defScope s_law_win_least) .none kV36 dc36 pm36 an36 cd36 ct36), sl36⟩) (c36 : PySem.W.codeIn K cd36 "_law_win_least" = true) (k36 : PySem.W.keepIn K (.ref f36) = true)
    (a37 : PySem.W.nsIn K mainGlobals "_law_win_heard" = some (some (.ref f37))) (l37 : K.lookup f37 = some ⟨oc37, od37, .func (PySem.W.fnOf "_law_win_heard" "_law_win_heard" (defArgs s_law_win_heard) (defBody s_law_win_heard) (defScope s_law_win_heard) .none kV37 dc37 pm37 an37 cd37 ct37), sl37⟩) (c37 : PySem.W.codeIn K cd37 "_law_win_heard" = true) (k37 : PySem.W.keepIn K (.ref f37) = true)
    (a38 : PySem.W.nsIn K mainGlobals "_law_win_no_books" = some (some (.ref f38))) (l38 : K.lookup f38 = some ⟨oc38, od38, .func (PySem.W.fnOf "_law_win_no_books" "_law_win_no_books" (defArgs s_law_win_no_books) (defBody s_law_win_no_books) (defScope s_law_win_no_books) .none kV38 dc38 pm38 an38 cd38 ct38), sl38⟩) (c38 : PySem.W.codeIn K cd38 "_law_win_no_books" = true) (k38 : PySem.W.keepIn K (.ref f38) = true)
    (a39 : PySem.W.nsIn K mainGlobals "_law_win_no_windows" = some (some (.ref f39))) (l39 : K.lookup f39 = some ⟨oc39, od39, .func (PySem.W.fnOf "_law_win_no_windows" "_law_win_no_windows" (defArgs s_law_win_no_windows) (defBody s_law_win_no_windows) (defScope s_law_win_no_windows) .none kV39 dc39 pm39 an39 cd39 ct39), sl39⟩) (c39 : PySem.W.codeIn K cd39 "_law_win_no_windows" = true) (k39 : PySem.W.keepIn K (.ref f39) = true)
    (a40 : PySem.W.nsIn K mainGlobals "_law_numbers_right" = some (some (.ref f40))) (l40 : K.lookup f40 = some ⟨oc40, od40, .func (PySem.W.fnOf "_law_numbers_right" "_law_numbers_right" (defArgs s_law_numbers_right) (defBody s_law_numbers_right) (defScope s_law_numbers_right) .none kV40 dc40 pm40 an40 cd40 ct40), sl40⟩) (c40 : PySem.W.codeIn K cd40 "_law_numbers_right" = true) (k40 : PySem.W.keepIn K (.ref f40) = true)
    (a41 : PySem.W.nsIn K mainGlobals "_law_rayed" = some (some (.ref f41))) (l41 : K.lookup f41 = some ⟨oc41, od41, .func (PySem.W.fnOf "_law_rayed" "_law_rayed" (defArgs s_law_rayed) (defBody s_law_rayed) (defScope s_law_rayed) .none kV41 dc41 pm41 an41 cd41 ct41), sl41⟩) (c41 : PySem.W.codeIn K cd41 "_law_rayed" = true) (k41 : PySem.W.keepIn K (.ref f41) = true)
    (a42 : PySem.W.nsIn K mainGlobals "_law_many_rays" = some (some (.ref f42))) (l42 : K.lookup f42 = some ⟨oc42, od42, .func (PySem.W.fnOf "_law_many_rays" "_law_many_rays" (defArgs s_law_many_rays) (defBody s_law_many_rays) (defScope s_law_many_rays) .none kV42 dc42 pm42 an42 cd42 ct42), sl42⟩) (c42 : PySem.W.codeIn K cd42 "_law_many_rays" = true) (k42 : PySem.W.keepIn K (.ref f42) = true)
    (a43 : PySem.W.nsIn K mainGlobals "_law_refused" = some (some (.ref f43))) (l43 : K.lookup f43 = some ⟨oc43, od43, .func (PySem.W.fnOf "_law_refused" "_law_refused" (defArgs s_law_refused) (defBody s_law_refused) (defScope s_law_refused) .none kV43 dc43 pm43 an43 (.ref cL) ct43), sl43⟩) (c43 : PySem.W.codeIn K (.ref cL) "_law_refused" = true) (k43 : PySem.W.keepIn K (.ref f43) = true)
    (tbC : PySem.W.codeHdIn K cL pL = true) (tbN : K.lookup pL = none)
    (a44 : PySem.W.nsIn K mainGlobals "law" = some (some (.ref f44))) (l44 : K.lookup f44 = some ⟨oc44, od44, .func (PySem.W.fnOf "law" "law" (defArgs s_law) (defBody s_law) (defScope s_law) .none kV44 dc44 pm44 an44 cd44 ct44), sl44⟩) (c44 : PySem.W.codeIn K cd44 "law" = true) (k44 : PySem.W.keepIn K (.ref f44) = true)
    (lI : K.lookup fI = some ⟨ocI, odI, .func (PySem.W.fnOf "__init__" "Refused.__init__" (defArgs s_init) (defBody s_init) (defScope s_init) .none kVI dcI pmI anI cdI ctI), slI⟩) (cI : PySem.W.codeIn K cdI "Refused.__init__" = true) (kI : PySem.W.keepIn K (.ref fI) = true) (tI : PySem.W.typeIn K (.ref fI) = some (.type "function"))
    (xg0 : PySem.W.nsIn K mainGlobals "BadBook" = some (some (.ref C0))) (xl0 : K.lookup C0 = some (excClassObj nm0 q0 C0 N0 bs0 [.ref R0, .type "ValueError", .type "Exception", .type "BaseException", .type "object"] true sn0 sub0 ab0 col0 dd0 m00 m10 (some (.str "BadBook" mt0)) m30 m50 "ValueError.__new__"))
    (xs0 : PySem.W.findIn K (.ref C0) "__setattr__" = some (some (.builtin "object.__setattr__"))) (xe0 : PySem.W.subIn K (.ref C0) (.type "BaseException") = some true) (xt0 : PySem.W.typeIn K (.ref C0) = some (.type "type")) (xk0 : PySem.W.keepIn K (.ref C0) = true)
    (xi0 : PySem.W.findIn K (.ref C0) "__init__" = some (some (.ref fI))) (xa0 : PySem.W.findIn K (.ref C0) "__getattribute__" = some (some (.builtin "BaseException.__getattribute__"))) (xb0 : PySem.W.findIn K (.ref C0) "__getattr__" = some none) (xw0 : PySem.W.findIn K (.ref C0) "what" = some none) (xh0 : PySem.W.hasDictIn K C0 = true) (xc0 : PySem.W.isClsIn K C0 = true)
    (xm0 : PySem.W.mroIn K C0 (.type "object") = some true) (xr0 : PySem.W.readsIn K C0 (.type "type") = true) (xf0 : PySem.W.findCls K (.ref C0) (.type "type") "__name__" = some (.get (.builtin "getset_descriptor.__get__") (.builtin "type.__name__") (.ref C0) (.type "type"))) (xn0 : PySem.W.findIn K (.ref C0) "kind" = some none) (xo0 : PySem.W.findIn K (.ref C0) "__class__" = some (some (.builtin "object.__class__")))
    (xg1 : PySem.W.nsIn K mainGlobals "Stray" = some (some (.ref C1))) (xl1 : K.lookup C1 = some (excClassObj nm1 q1 C1 N1 bs1 [.ref R1, .type "ValueError", .type "Exception", .type "BaseException", .type "object"] true sn1 sub1 ab1 col1 dd1 m01 m11 (some (.str "Stray" mt1)) m31 m51 "ValueError.__new__"))
    (xs1 : PySem.W.findIn K (.ref C1) "__setattr__" = some (some (.builtin "object.__setattr__"))) (xe1 : PySem.W.subIn K (.ref C1) (.type "BaseException") = some true) (xt1 : PySem.W.typeIn K (.ref C1) = some (.type "type")) (xk1 : PySem.W.keepIn K (.ref C1) = true)
    (xi1 : PySem.W.findIn K (.ref C1) "__init__" = some (some (.ref fI))) (xa1 : PySem.W.findIn K (.ref C1) "__getattribute__" = some (some (.builtin "BaseException.__getattribute__"))) (xb1 : PySem.W.findIn K (.ref C1) "__getattr__" = some none) (xw1 : PySem.W.findIn K (.ref C1) "what" = some none) (xh1 : PySem.W.hasDictIn K C1 = true) (xc1 : PySem.W.isClsIn K C1 = true)
    (xm1 : PySem.W.mroIn K C1 (.type "object") = some true) (xr1 : PySem.W.readsIn K C1 (.type "type") = true) (xf1 : PySem.W.findCls K (.ref C1) (.type "type") "__name__" = some (.get (.builtin "getset_descriptor.__get__") (.builtin "type.__name__") (.ref C1) (.type "type"))) (xn1 : PySem.W.findIn K (.ref C1) "kind" = some none) (xo1 : PySem.W.findIn K (.ref C1) "__class__" = some (some (.builtin "object.__class__")))
    (xg2 : PySem.W.nsIn K mainGlobals "BadState" = some (some (.ref C2))) (xl2 : K.lookup C2 = some (excClassObj nm2 q2 C2 N2 bs2 [.ref R2, .type "ValueError", .type "Exception", .type "BaseException", .type "object"] true sn2 sub2 ab2 col2 dd2 m02 m12 (some (.str "BadState" mt2)) m32 m52 "ValueError.__new__"))
    (xs2 : PySem.W.findIn K (.ref C2) "__setattr__" = some (some (.builtin "object.__setattr__"))) (xe2 : PySem.W.subIn K (.ref C2) (.type "BaseException") = some true) (xt2 : PySem.W.typeIn K (.ref C2) = some (.type "type")) (xk2 : PySem.W.keepIn K (.ref C2) = true)
    (xi2 : PySem.W.findIn K (.ref C2) "__init__" = some (some (.ref fI))) (xa2 : PySem.W.findIn K (.ref C2) "__getattribute__" = some (some (.builtin "BaseException.__getattribute__"))) (xb2 : PySem.W.findIn K (.ref C2) "__getattr__" = some none) (xw2 : PySem.W.findIn K (.ref C2) "what" = some none) (xh2 : PySem.W.hasDictIn K C2 = true) (xc2 : PySem.W.isClsIn K C2 = true)
    (xm2 : PySem.W.mroIn K C2 (.type "object") = some true) (xr2 : PySem.W.readsIn K C2 (.type "type") = true) (xf2 : PySem.W.findCls K (.ref C2) (.type "type") "__name__" = some (.get (.builtin "getset_descriptor.__get__") (.builtin "type.__name__") (.ref C2) (.type "type"))) (xn2 : PySem.W.findIn K (.ref C2) "kind" = some none) (xo2 : PySem.W.findIn K (.ref C2) "__class__" = some (some (.builtin "object.__class__")))
    (xg3 : PySem.W.nsIn K mainGlobals "BadMany" = some (some (.ref C3))) (xl3 : K.lookup C3 = some (excClassObj nm3 q3 C3 N3 bs3 [.ref R3, .type "ValueError", .type "Exception", .type "BaseException", .type "object"] true sn3 sub3 ab3 col3 dd3 m03 m13 (some (.str "BadMany" mt3)) m33 m53 "ValueError.__new__"))
    (xs3 : PySem.W.findIn K (.ref C3) "__setattr__" = some (some (.builtin "object.__setattr__"))) (xe3 : PySem.W.subIn K (.ref C3) (.type "BaseException") = some true) (xt3 : PySem.W.typeIn K (.ref C3) = some (.type "type")) (xk3 : PySem.W.keepIn K (.ref C3) = true)
    (xi3 : PySem.W.findIn K (.ref C3) "__init__" = some (some (.ref fI))) (xa3 : PySem.W.findIn K (.ref C3) "__getattribute__" = some (some (.builtin "BaseException.__getattribute__"))) (xb3 : PySem.W.findIn K (.ref C3) "__getattr__" = some none) (xw3 : PySem.W.findIn K (.ref C3) "what" = some none) (xh3 : PySem.W.hasDictIn K C3 = true) (xc3 : PySem.W.isClsIn K C3 = true)
    (xm3 : PySem.W.mroIn K C3 (.type "object") = some true) (xr3 : PySem.W.readsIn K C3 (.type "type") = true) (xf3 : PySem.W.findCls K (.ref C3) (.type "type") "__name__" = some (.get (.builtin "getset_descriptor.__get__") (.builtin "type.__name__") (.ref C3) (.type "type"))) (xn3 : PySem.W.findIn K (.ref C3) "kind" = some none) (xo3 : PySem.W.findIn K (.ref C3) "__class__" = some (some (.builtin "object.__class__")))
    (xg4 : PySem.W.nsIn K mainGlobals "TooMany" = some (some (.ref C4))) (xl4 : K.lookup C4 = some (excClassObj nm4 q4 C4 N4 bs4 [.ref R4, .type "ValueError", .type "Exception", .type "BaseException", .type "object"] true sn4 sub4 ab4 col4 dd4 m04 m14 (some (.str "TooMany" mt4)) m34 m54 "ValueError.__new__"))
    (xs4 : PySem.W.findIn K (.ref C4) "__setattr__" = some (some (.builtin "object.__setattr__"))) (xe4 : PySem.W.subIn K (.ref C4) (.type "BaseException") = some true) (xt4 : PySem.W.typeIn K (.ref C4) = some (.type "type")) (xk4 : PySem.W.keepIn K (.ref C4) = true)
    (xi4 : PySem.W.findIn K (.ref C4) "__init__" = some (some (.ref fI))) (xa4 : PySem.W.findIn K (.ref C4) "__getattribute__" = some (some (.builtin "BaseException.__getattribute__"))) (xb4 : PySem.W.findIn K (.ref C4) "__getattr__" = some none) (xw4 : PySem.W.findIn K (.ref C4) "what" = some none) (xh4 : PySem.W.hasDictIn K C4 = true) (xc4 : PySem.W.isClsIn K C4 = true)
    (xm4 : PySem.W.mroIn K C4 (.type "object") = some true) (xr4 : PySem.W.readsIn K C4 (.type "type") = true) (xf4 : PySem.W.findCls K (.ref C4) (.type "type") "__name__" = some (.get (.builtin "getset_descriptor.__get__") (.builtin "type.__name__") (.ref C4) (.type "type"))) (xn4 : PySem.W.findIn K (.ref C4) "kind" = some none) (xo4 : PySem.W.findIn K (.ref C4) "__class__" = some (some (.builtin "object.__class__")))
    (xg5 : PySem.W.nsIn K mainGlobals "NoMessage" = some (some (.ref C5))) (xl5 : K.lookup C5 = some (excClassObj nm5 q5 C5 N5 bs5 [.ref R5, .type "ValueError", .type "Exception", .type "BaseException", .type "object"] true sn5 sub5 ab5 col5 dd5 m05 m15 (some (.str "NoMessage" mt5)) m35 m55 "ValueError.__new__"))
    (xs5 : PySem.W.findIn K (.ref C5) "__setattr__" = some (some (.builtin "object.__setattr__"))) (xe5 : PySem.W.subIn K (.ref C5) (.type "BaseException") = some true) (xt5 : PySem.W.typeIn K (.ref C5) = some (.type "type")) (xk5 : PySem.W.keepIn K (.ref C5) = true)
    (xi5 : PySem.W.findIn K (.ref C5) "__init__" = some (some (.ref fI))) (xa5 : PySem.W.findIn K (.ref C5) "__getattribute__" = some (some (.builtin "BaseException.__getattribute__"))) (xb5 : PySem.W.findIn K (.ref C5) "__getattr__" = some none) (xw5 : PySem.W.findIn K (.ref C5) "what" = some none) (xh5 : PySem.W.hasDictIn K C5 = true) (xc5 : PySem.W.isClsIn K C5 = true)
    (xm5 : PySem.W.mroIn K C5 (.type "object") = some true) (xr5 : PySem.W.readsIn K C5 (.type "type") = true) (xf5 : PySem.W.findCls K (.ref C5) (.type "type") "__name__" = some (.get (.builtin "getset_descriptor.__get__") (.builtin "type.__name__") (.ref C5) (.type "type"))) (xn5 : PySem.W.findIn K (.ref C5) "kind" = some none) (xo5 : PySem.W.findIn K (.ref C5) "__class__" = some (some (.builtin "object.__class__")))
    (xg6 : PySem.W.nsIn K mainGlobals "BadWindow" = some (some (.ref C6))) (xl6 : K.lookup C6 = some (excClassObj nm6 q6 C6 N6 bs6 [.ref R6, .type "ValueError", .type "Exception", .type "BaseException", .type "object"] true sn6 sub6 ab6 col6 dd6 m06 m16 (some (.str "BadWindow" mt6)) m36 m56 "ValueError.__new__"))
    (xs6 : PySem.W.findIn K (.ref C6) "__setattr__" = some (some (.builtin "object.__setattr__"))) (xe6 : PySem.W.subIn K (.ref C6) (.type "BaseException") = some true) (xt6 : PySem.W.typeIn K (.ref C6) = some (.type "type")) (xk6 : PySem.W.keepIn K (.ref C6) = true)
    (xi6 : PySem.W.findIn K (.ref C6) "__init__" = some (some (.ref fI))) (xa6 : PySem.W.findIn K (.ref C6) "__getattribute__" = some (some (.builtin "BaseException.__getattribute__"))) (xb6 : PySem.W.findIn K (.ref C6) "__getattr__" = some none) (xw6 : PySem.W.findIn K (.ref C6) "what" = some none) (xh6 : PySem.W.hasDictIn K C6 = true) (xc6 : PySem.W.isClsIn K C6 = true)
    (xm6 : PySem.W.mroIn K C6 (.type "object") = some true) (xr6 : PySem.W.readsIn K C6 (.type "type") = true) (xf6 : PySem.W.findCls K (.ref C6) (.type "type") "__name__" = some (.get (.builtin "getset_descriptor.__get__") (.builtin "type.__name__") (.ref C6) (.type "type"))) (xn6 : PySem.W.findIn K (.ref C6) "kind" = some none) (xo6 : PySem.W.findIn K (.ref C6) "__class__" = some (some (.builtin "object.__class__")))
    (xg7 : PySem.W.nsIn K mainGlobals "NoNumber" = some (some (.ref C7))) (xl7 : K.lookup C7 = some (excClassObj nm7 q7 C7 N7 bs7 [.ref R7, .type "ValueError", .type "Exception", .type "BaseException", .type "object"] true sn7 sub7 ab7 col7 dd7 m07 m17 (some (.str "NoNumber" mt7)) m37 m57 "ValueError.__new__"))
    (xs7 : PySem.W.findIn K (.ref C7) "__setattr__" = some (some (.builtin "object.__setattr__"))) (xe7 : PySem.W.subIn K (.ref C7) (.type "BaseException") = some true) (xt7 : PySem.W.typeIn K (.ref C7) = some (.type "type")) (xk7 : PySem.W.keepIn K (.ref C7) = true)
    (xi7 : PySem.W.findIn K (.ref C7) "__init__" = some (some (.ref fI))) (xa7 : PySem.W.findIn K (.ref C7) "__getattribute__" = some (some (.builtin "BaseException.__getattribute__"))) (xb7 : PySem.W.findIn K (.ref C7) "__getattr__" = some none) (xw7 : PySem.W.findIn K (.ref C7) "what" = some none) (xh7 : PySem.W.hasDictIn K C7 = true) (xc7 : PySem.W.isClsIn K C7 = true)
    (xm7 : PySem.W.mroIn K C7 (.type "object") = some true) (xr7 : PySem.W.readsIn K C7 (.type "type") = true) (xf7 : PySem.W.findCls K (.ref C7) (.type "type") "__name__" = some (.get (.builtin "getset_descriptor.__get__") (.builtin "type.__name__") (.ref C7) (.type "type"))) (xn7 : PySem.W.findIn K (.ref C7) "kind" = some none) (xo7 : PySem.W.findIn K (.ref C7) "__class__" = some (some (.builtin "object.__class__")))
    (xg8 : PySem.W.nsIn K mainGlobals "HasLasting" = some (some (.ref C8))) (xl8 : K.lookup C8 = some (excClassObj nm8 q8 C8 N8 bs8 [.ref R8, .type "ValueError", .type "Exception", .type "BaseException", .type "object"] true sn8 sub8 ab8 col8 dd8 m08 m18 (some (.str "HasLasting" mt8)) m38 m58 "ValueError.__new__"))
    (xs8 : PySem.W.findIn K (.ref C8) "__setattr__" = some (some (.builtin "object.__setattr__"))) (xe8 : PySem.W.subIn K (.ref C8) (.type "BaseException") = some true) (xt8 : PySem.W.typeIn K (.ref C8) = some (.type "type")) (xk8 : PySem.W.keepIn K (.ref C8) = true)
    (xi8 : PySem.W.findIn K (.ref C8) "__init__" = some (some (.ref fI))) (xa8 : PySem.W.findIn K (.ref C8) "__getattribute__" = some (some (.builtin "BaseException.__getattribute__"))) (xb8 : PySem.W.findIn K (.ref C8) "__getattr__" = some none) (xw8 : PySem.W.findIn K (.ref C8) "what" = some none) (xh8 : PySem.W.hasDictIn K C8 = true) (xc8 : PySem.W.isClsIn K C8 = true)
    (xm8 : PySem.W.mroIn K C8 (.type "object") = some true) (xr8 : PySem.W.readsIn K C8 (.type "type") = true) (xf8 : PySem.W.findCls K (.ref C8) (.type "type") "__name__" = some (.get (.builtin "getset_descriptor.__get__") (.builtin "type.__name__") (.ref C8) (.type "type"))) (xn8 : PySem.W.findIn K (.ref C8) "kind" = some none) (xo8 : PySem.W.findIn K (.ref C8) "__class__" = some (some (.builtin "object.__class__")))
    (zcn : PySem.W.specialIn K (.builtin "object.__class__") "__get__" = some (some (.builtin "getset_descriptor.__get__"))) (zct : PySem.W.takesIn K (.builtin "object.__class__") = some true)
    (ps_BadBook_BadBook : PySem.W.subIn K (.ref C0) (.ref C0) = some true)
    (ps_Stray_BadBook : PySem.W.subIn K (.ref C1) (.ref C0) = some false)
    (ps_Stray_Stray : PySem.W.subIn K (.ref C1) (.ref C1) = some true)
    (ps_BadWindow_BadBook : PySem.W.subIn K (.ref C6) (.ref C0) = some false)
    (ps_BadWindow_Stray : PySem.W.subIn K (.ref C6) (.ref C1) = some false)
    (ps_BadWindow_BadState : PySem.W.subIn K (.ref C6) (.ref C2) = some false)
    (ps_BadWindow_NoMessage : PySem.W.subIn K (.ref C6) (.ref C5) = some false)
    (ps_BadWindow_BadMany : PySem.W.subIn K (.ref C6) (.ref C3) = some false)
    (ps_BadWindow_BadWindow : PySem.W.subIn K (.ref C6) (.ref C6) = some true)
    (z0 : PySem.W.nsIn K mainGlobals "isinstance" = some none)
    (z1 : PySem.W.nsIn K mainGlobals "int" = some none)
    (z2 : PySem.W.nsIn K mainGlobals "bool" = some none)
    (z3 : PySem.W.nsIn K mainGlobals "tuple" = some none)
    (z4 : PySem.W.nsIn K mainGlobals "len" = some none)
    (z5 : PySem.W.nsIn K mainGlobals "range" = some none)
    (z6 : PySem.W.nsIn K mainGlobals "dict" = some none)
    (z7 : PySem.W.nsIn K mainGlobals "min" = some none)
    (z8 : PySem.W.nsIn K mainGlobals "sorted" = some none)
    (z9 : PySem.W.nsIn K mainGlobals "set" = some none)
    (z10 : PySem.W.nsIn K mainGlobals "any" = some none)
    (z11 : PySem.W.nsIn K mainGlobals "list" = some none)
    (z12 : PySem.W.nsIn K mainGlobals "sum" = some none)
    (z13 : PySem.W.nsIn K mainGlobals "max" = some none)
    (z14 : PySem.W.nsIn K mainGlobals "enumerate" = some none)
    (z15 : PySem.W.nsIn K mainGlobals "repr" = some none)
    (y0 : PySem.W.nsIn K mainGlobals "MOST_STATES" = some (some (.int 8 t0)))
    (y1 : PySem.W.nsIn K mainGlobals "MOST_MESSAGES" = some (some (.int 5 t1)))
    (y2 : PySem.W.nsIn K mainGlobals "GREATEST_MESSAGE" = some (some (.int 99 t2)))
    (y3 : PySem.W.nsIn K mainGlobals "LAST_WINDOW" = some (some (.int 9 t3)))
    : K.lookup pL = none ∧ PySem.W.codeHdIn K cL pL = true ∧ ∃ fd : FuncData, (∀ (s : Shared) (v : Value), BindsTo s fd ⟨[v], []⟩ [("script", v)]) ∧ ∀ base : Heap, K.In base → base.Ns mainGlobals mg → LamX.TabB base mg cL pL → FnG l.prog w K mg base CX0 12 fa fd ["script"] (spLaw K pL) := by
  have T : Tx K mg := {
    whole := mkDef X G a0 l0 c0 k0 fun _ _ _ _ _ _ us hl => match us, hl with | [_], _ => rfl
    whole_within := mkDef X G a1 l1 c1 k1 fun _ _ _ _ _ _ us hl => match us, hl with | [_, _, _], _ => rfl
    tuple_within := mkDef X G a2 l2 c2 k2 fun _ _ _ _ _ _ us hl => match us, hl with | [_, _, _], _ => rfl
    first_rows := mkDefD ⟨zk3, rfl⟩ X G a3 l3 c3 k3 df3 1 rfl (fun _ _ _ _ _ _ _ us its h1 h2 => match us, its, h1, h2 with | [_], [_], _, _ => ⟨_, rfl, rfl⟩) (fun _ _ _ _ _ _ _ us its h1 h2 => match us, its, h1, h2 with | [_, _], [_], _, _ => ⟨_, rfl, rfl⟩)
    made_book := mkDef X G a4 l4 c4 k4 fun _ _ _ _ _ _ us hl => match us, hl with | [_], _ => rfl
    check_form := mkDef X G a5 l5 c5 k5 fun _ _ _ _ _ _ us hl => match us, hl with | [_], _ => rfl
    has_state_form := mkDef X G a6 l6 c6 k6 fun _ _ _ _ _ _ us hl => match us, hl with | [_, _], _ => rfl
    fork_states := mkDef X G a7 l7 c7 k7 fun _ _ _ _ _ _ us hl => match us, hl with | [_], _ => rfl
    led_to := mkDef X G a8 l8 c8 k8 fun _ _ _ _ _ _ us hl => match us, hl with | [_, _, _, _], _ => rfl
    reach := mkDef X G a9 l9 c9 k9 fun _ _ _ _ _ _ us hl => match us, hl with | [_, _, _], _ => rfl
    ways_back := mkDef X G a10 l10 c10 k10 fun _ _ _ _ _ _ us hl => match us, hl with | [_, _], _ => rfl
    ring_states := mkDef X G a11 l11 c11 k11 fun _ _ _ _ _ _ us hl => match us, hl with | [_], _ => rfl
    forks_on_rings := mkDef X G a12 l12 c12 k12 fun _ _ _ _ _ _ us hl => match us, hl with | [_], _ => rfl
    made_window := mkDef X G a13 l13 c13 k13 fun _ _ _ _ _ _ us hl => match us, hl with | [_], _ => rfl
    leading_to := mkDef X G a14 l14 c14 k14 fun _ _ _ _ _ _ us hl => match us, hl with | [_, _, _, _], _ => rfl
    ranks_for := mkDef X G a15 l15 c15 k15 fun _ _ _ _ _ _ us hl => match us, hl with | [_, _], _ => rfl
    lasting_for := mkDef X G a16 l16 c16 k16 fun _ _ _ _ _ _ us hl => match us, hl with | [_, _], _ => rfl
    least_wires := mkDef X G a17 l17 c17 k17 fun _ _ _ _ _ _ us hl => match us, hl with | [_, _], _ => rfl
    from_window := mkDef X G a18 l18 c18 k18 fun _ _ _ _ _ _ us hl => match us, hl with | [_], _ => rfl
    verdict := mkDef X G a19 l19 c19 k19 fun _ _ _ _ _ _ us hl => match us, hl with | [_], _ => rfl
    least_for := mkDef X G a20 l20 c20 k20 fun _ _ _ _ _ _ us hl => match us, hl with | [_, _], _ => rfl
    least_free := mkDef X G a21 l21 c21 k21 fun _ _ _ _ _ _ us hl => match us, hl with | [_], _ => rfl
    ray_counts := mkDef X G a22 l22 c22 k22 fun _ _ _ _ _ _ us hl => match us, hl with | [_], _ => rfl
    law_pool := mkDef X G a23 l23 c23 k23 fun _ _ _ _ _ _ us hl => match us, hl with | [_], _ => rfl
    law_draw := mkDef X G a24 l24 c24 k24 fun _ _ _ _ _ _ us hl => match us, hl with | [_, _], _ => rfl
    law_pick := mkDef X G a25 l25 c25 k25 fun _ _ _ _ _ _ us hl => match us, hl with | [_, _], _ => rfl
    law_book_meeting := mkDef X G a26 l26 c26 k26 fun _ _ _ _ _ _ us hl => match us, hl with | [_], _ => rfl
    law_book_messages := mkDef X G a27 l27 c27 k27 fun _ _ _ _ _ _ us hl => match us, hl with | [_, _], _ => rfl
    law_book_drawn := mkDef X G a28 l28 c28 k28 fun _ _ _ _ _ _ us hl => match us, hl with | [_, _, _], _ => rfl
    law_win_ends := mkDef X G a29 l29 c29 k29 fun _ _ _ _ _ _ us hl => match us, hl with | [_, _, _], _ => rfl
    law_win_forks := mkDef X G a30 l30 c30 k30 fun _ _ _ _ _ _ us hl => match us, hl with | [_], _ => rfl
    law_win_ranks := mkDef X G a31 l31 c31 k31 fun _ _ _ _ _ _ us hl => match us, hl with | [_, _], _ => rfl
    law_win_back := mkDef X G a32 l32 c32 k32 fun _ _ _ _ _ _ us hl => match us, hl with | [_], _ => rfl
    law_win_ring_forks := mkDef X G a33 l33 c33 k33 fun _ _ _ _ _ _ us hl => match us, hl with | [_], _ => rfl
    law_win_rays := mkDef X G a34 l34 c34 k34 fun _ _ _ _ _ _ us hl => match us, hl with | [_, _], _ => rfl
    law_win_free := mkDef X G a35 l35 c35 k35 fun _ _ _ _ _ _ us hl => match us, hl with | [_], _ => rfl
    law_win_least := mkDef X G a36 l36 c36 k36 fun _ _ _ _ _ _ us hl => match us, hl with | [_, _], _ => rfl
    law_win_heard := mkDef X G a37 l37 c37 k37 fun _ _ _ _ _ _ us hl => match us, hl with | [_], _ => rfl
    law_win_no_books := mkDef X G a38 l38 c38 k38 fun _ _ _ _ _ _ us hl => match us, hl with | [_, _], _ => rfl
    law_win_no_windows := mkDef X G a39 l39 c39 k39 fun _ _ _ _ _ _ us hl => match us, hl with | [], _ => rfl
    law_numbers_right := mkDef X G a40 l40 c40 k40 fun _ _ _ _ _ _ us hl => match us, hl with | [_, _], _ => rfl
    law_rayed := mkDef X G a41 l41 c41 k41 fun _ _ _ _ _ _ us hl => match us, hl with | [_], _ => rfl
    law_many_rays := mkDef X G a42 l42 c42 k42 fun _ _ _ _ _ _ us hl => match us, hl with | [_], _ => rfl
    law_refused := mkDef X G a43 l43 c43 k43 fun _ _ _ _ _ _ us hl => match us, hl with | [_, _], _ => rfl
    law := mkDef X G a44 l44 c44 k44 fun _ _ _ _ _ _ us hl => match us, hl with | [_], _ => rfl
    init := ⟨fI, _, fun_mk lI cI kI, tI, fun us hl => match us, hl with | [_, _], _ => rfl⟩
    x_BadBook := ⟨C0, PySem.W.mg_of X G xg0, ⟨⟨_, _, _, _, _, _, _, _, _, _, _, _, _, _, _, xl0, (show PySem.HandSPX.refsVE [.type "ValueError", .type "Exception", .type "BaseException", .type "object"] = true by decide +kernel)⟩, xs0, xe0, xt0, xk0⟩, xi0, xa0, xb0, xw0, ⟨xa0, xb0, xe0, xc0, xo0, zcn, zct, xm0, xr0, xf0, ⟨_, _, _, _, mt0, xl0, rfl⟩, xn0⟩, xh0, xc0⟩
    x_Stray := ⟨C1, PySem.W.mg_of X G xg1, ⟨⟨_, _, _, _, _, _, _, _, _, _, _, _, _, _, _, xl1, (show PySem.HandSPX.refsVE [.type "ValueError", .type "Exception", .type "BaseException", .type "object"] = true by decide +kernel)⟩, xs1, xe1, xt1, xk1⟩, xi1, xa1, xb1, xw1, ⟨xa1, xb1, xe1, xc1, xo1, zcn, zct, xm1, xr1, xf1, ⟨_, _, _, _, mt1, xl1, rfl⟩, xn1⟩, xh1, xc1⟩
    x_BadState := ⟨C2, PySem.W.mg_of X G xg2, ⟨⟨_, _, _, _, _, _, _, _, _, _, _, _, _, _, _, xl2, (show PySem.HandSPX.refsVE [.type "ValueError", .type "Exception", .type "BaseException", .type "object"] = true by decide +kernel)⟩, xs2, xe2, xt2, xk2⟩, xi2, xa2, xb2, xw2, ⟨xa2, xb2, xe2, xc2, xo2, zcn, zct, xm2, xr2, xf2, ⟨_, _, _, _, mt2, xl2, rfl⟩, xn2⟩, xh2, xc2⟩
    x_BadMany := ⟨C3, PySem.W.mg_of X G xg3, ⟨⟨_, _, _, _, _, _, _, _, _, _, _, _, _, _, _, xl3, (show PySem.HandSPX.refsVE [.type "ValueError", .type "Exception", .type "BaseException", .type "object"] = true by decide +kernel)⟩, xs3, xe3, xt3, xk3⟩, xi3, xa3, xb3, xw3, ⟨xa3, xb3, xe3, xc3, xo3, zcn, zct, xm3, xr3, xf3, ⟨_, _, _, _, mt3, xl3, rfl⟩, xn3⟩, xh3, xc3⟩
    x_TooMany := ⟨C4, PySem.W.mg_of X G xg4, ⟨⟨_, _, _, _, _, _, _, _, _, _, _, _, _, _, _, xl4, (show PySem.HandSPX.refsVE [.type "ValueError", .type "Exception", .type "BaseException", .type "object"] = true by decide +kernel)⟩, xs4, xe4, xt4, xk4⟩, xi4, xa4, xb4, xw4, ⟨xa4, xb4, xe4, xc4, xo4, zcn, zct, xm4, xr4, xf4, ⟨_, _, _, _, mt4, xl4, rfl⟩, xn4⟩, xh4, xc4⟩
    x_NoMessage := ⟨C5, PySem.W.mg_of X G xg5, ⟨⟨_, _, _, _, _, _, _, _, _, _, _, _, _, _, _, xl5, (show PySem.HandSPX.refsVE [.type "ValueError", .type "Exception", .type "BaseException", .type "object"] = true by decide +kernel)⟩, xs5, xe5, xt5, xk5⟩, xi5, xa5, xb5, xw5, ⟨xa5, xb5, xe5, xc5, xo5, zcn, zct, xm5, xr5, xf5, ⟨_, _, _, _, mt5, xl5, rfl⟩, xn5⟩, xh5, xc5⟩
    x_BadWindow := ⟨C6, PySem.W.mg_of X G xg6, ⟨⟨_, _, _, _, _, _, _, _, _, _, _, _, _, _, _, xl6, (show PySem.HandSPX.refsVE [.type "ValueError", .type "Exception", .type "BaseException", .type "object"] = true by decide +kernel)⟩, xs6, xe6, xt6, xk6⟩, xi6, xa6, xb6, xw6, ⟨xa6, xb6, xe6, xc6, xo6, zcn, zct, xm6, xr6, xf6, ⟨_, _, _, _, mt6, xl6, rfl⟩, xn6⟩, xh6, xc6⟩
    x_NoNumber := ⟨C7, PySem.W.mg_of X G xg7, ⟨⟨_, _, _, _, _, _, _, _, _, _, _, _, _, _, _, xl7, (show PySem.HandSPX.refsVE [.type "ValueError", .type "Exception", .type "BaseException", .type "object"] = true by decide +kernel)⟩, xs7, xe7, xt7, xk7⟩, xi7, xa7, xb7, xw7, ⟨xa7, xb7, xe7, xc7, xo7, zcn, zct, xm7, xr7, xf7, ⟨_, _, _, _, mt7, xl7, rfl⟩, xn7⟩, xh7, xc7⟩
    x_HasLasting := ⟨C8, PySem.W.mg_of X G xg8, ⟨⟨_, _, _, _, _, _, _, _, _, _, _, _, _, _, _, xl8, (show PySem.HandSPX.refsVE [.type "ValueError", .type "Exception", .type "BaseException", .type "object"] = true by decide +kernel)⟩, xs8, xe8, xt8, xk8⟩, xi8, xa8, xb8, xw8, ⟨xa8, xb8, xe8, xc8, xo8, zcn, zct, xm8, xr8, xf8, ⟨_, _, _, _, mt8, xl8, rfl⟩, xn8⟩, xh8, xc8⟩
    s_BadBook_BadBook := ps_BadBook_BadBook
    s_Stray_BadBook := ps_Stray_BadBook
    s_Stray_Stray := ps_Stray_Stray
    s_BadWindow_BadBook := ps_BadWindow_BadBook
    s_BadWindow_Stray := ps_BadWindow_Stray
    s_BadWindow_BadState := ps_BadWindow_BadState
    s_BadWindow_NoMessage := ps_BadWindow_NoMessage
    s_BadWindow_BadMany := ps_BadWindow_BadMany
    s_BadWindow_BadWindow := ps_BadWindow_BadWindow
    n_isinstance := PySem.W.mg_none_of X G z0
    n_int := PySem.W.mg_none_of X G z1
    n_bool := PySem.W.mg_none_of X G z2
    n_tuple := PySem.W.mg_none_of X G z3
    n_len := PySem.W.mg_none_of X G z4
    n_range := PySem.W.mg_none_of X G z5
    n_dict := PySem.W.mg_none_of X G z6
    n_min := PySem.W.mg_none_of X G z7
    n_sorted := PySem.W.mg_none_of X G z8
    n_set := PySem.W.mg_none_of X G z9
    n_any := PySem.W.mg_none_of X G z10
    n_list := PySem.W.mg_none_of X G z11
    n_sum := PySem.W.mg_none_of X G z12
    n_max := PySem.W.mg_none_of X G z13
    n_enumerate := PySem.W.mg_none_of X G z14
    n_repr := PySem.W.mg_none_of X G z15
    c_MOST_STATES := ⟨_, PySem.W.mg_of X G y0⟩
    c_MOST_MESSAGES := ⟨_, PySem.W.mg_of X G y1⟩
    c_GREATEST_MESSAGE := ⟨_, PySem.W.mg_of X G y2⟩
    c_LAST_WINDOW := ⟨_, PySem.W.mg_of X G y3⟩
  }
  have gl : T.law.f = fa := Value.ref.inj (Option.some.inj (T.law.g.symm.trans hfa))
  refine ⟨tbN, tbC, T.law.fd, fun s v => T.law.bind1 s v, fun base _ _ TB => ?_⟩
  have gr : T.law_refused.f = f43 := Value.ref.inj (Option.some.inj (T.law_refused.g.symm.trans (PySem.W.mg_of X G a43)))
  rw [← gl]
  exact ok_law T (by rw [gr]; exact l43) c43 TB
end Nv
open PySem PySem.W PyProof.Rows
set_option maxRecDepth 100000 in
set_option maxHeartbeats 0 in
theorem PySem.Challenge.cw_neverfour_k14_least_numbers_holds : PySem.Challenge.rw_neverfour_k14_least_numbers.Holds := by
  w_on; o_law; k_head; (case hw => w_witness2)
  k_fill
  refine' Nv.endGT (l := PySem.Challenge.rw_neverfour_k14_least_numbers) (n := 63) (k := 12) (x := "script") (sp := Nv.spLaw) rfl (by decide) rfl ⟨rfl, by decide, by decide⟩ (fun w h Y => PySem.W.km_in_of Y) (fun w h Y => PySem.W.km_tabs_of Y _ (List.mem_singleton.mpr rfl)) ?F (fun _ _ a ns hl hS hP => ⟨a, ns, rfl, hS, hl, hP, fun _ => rfl⟩)
  case F =>
    intro w mg fa h KX G hmg
    refine' Nv.all_mk KX G hmg ?a0 ?l0 ?c0 ?k0 ?a1 ?l1 ?c1 ?k1 ?a2 ?l2 ?c2 ?k2 ?a3 ?l3 ?c3 ?k3 ?df3 ?a4 ?l4 ?c4 ?k4 ?a5 ?l5 ?c5 ?k5 ?a6 ?l6 ?c6 ?k6 ?a7 ?l7 ?c7 ?k7 ?a8 ?l8 ?c8 ?k8 ?a9 ?l9 ?c9 ?k9 ?a10 ?l10 ?c10 ?k10 ?a11 ?l11 ?c11 ?k11 ?a12 ?l12 ?c12 ?k12 ?a13 ?l13 ?c13 ?k13 ?a14 ?l14 ?c14 ?k14 ?a15 ?l15 ?c15 ?k15 ?a16 ?l16 ?c16 ?k16 ?a17 ?l17 ?c17 ?k17 ?a18 ?l18 ?c18 ?k18 ?a19 ?l19 ?c19 ?k19 ?a20 ?l20 ?c20 ?k20 ?a21 ?l21 ?c21 ?k21 ?a22 ?l22 ?c22 ?k22 ?a23 ?l23 ?c23 ?k23 ?a24 ?l24 ?c24 ?k24 ?a25 ?l25 ?c25 ?k25 ?a26 ?l26 ?c26 ?k26 ?a27 ?l27 ?c27 ?k27 ?a28 ?l28 ?c28 ?k28 ?a29 ?l29 ?c29 ?k29 ?a30 ?l30 ?c30 ?k30 ?a31 ?l31 ?c31 ?k31 ?a32 ?l32 ?c32 ?k32 ?a33 ?l33 ?c33 ?k33 ?a34 ?l34 ?c34 ?k34 ?a35 ?l35 ?c35 ?k35 ?a36 ?l36 ?c36 ?k36 ?a37 ?l37 ?c37 ?k37 ?a38 ?l38 ?c38 ?k38 ?a39 ?l39 ?c39 ?k39 ?a40 ?l40 ?c40 ?k40 ?a41 ?l41 ?c41 ?k41 ?a42 ?l42 ?c42 ?k42 ?a43 ?l43 ?c43 ?k43 ?tbC ?tbN ?a44 ?l44 ?c44 ?k44 ?lI ?cI ?kI ?tI ?xg0 ?xl0 ?xs0 ?xe0 ?xt0 ?xk0 ?xi0 ?xa0 ?xb0 ?xw0 ?xh0 ?xc0 ?xm0 ?xr0 ?xf0 ?xn0 ?xo0 ?xg1 ?xl1 ?xs1 ?xe1 ?xt1 ?xk1 ?xi1 ?xa1 ?xb1 ?xw1 ?xh1 ?xc1 ?xm1 ?xr1 ?xf1 ?xn1 ?xo1 ?xg2 ?xl2 ?xs2 ?xe2 ?xt2 ?xk2 ?xi2 ?xa2 ?xb2 ?xw2 ?xh2 ?xc2 ?xm2 ?xr2 ?xf2 ?xn2 ?xo2 ?xg3 ?xl3 ?xs3 ?xe3 ?xt3 ?xk3 ?xi3 ?xa3 ?xb3 ?xw3 ?xh3 ?xc3 ?xm3 ?xr3 ?xf3 ?xn3 ?xo3 ?xg4 ?xl4 ?xs4 ?xe4 ?xt4 ?xk4 ?xi4 ?xa4 ?xb4 ?xw4 ?xh4 ?xc4 ?xm4 ?xr4 ?xf4 ?xn4 ?xo4 ?xg5 ?xl5 ?xs5 ?xe5 ?xt5 ?xk5 ?xi5 ?xa5 ?xb5 ?xw5 ?xh5 ?xc5 ?xm5 ?xr5 ?xf5 ?xn5 ?xo5 ?xg6 ?xl6 ?xs6 ?xe6 ?xt6 ?xk6 ?xi6 ?xa6 ?xb6 ?xw6 ?xh6 ?xc6 ?xm6 ?xr6 ?xf6 ?xn6 ?xo6 ?xg7 ?xl7 ?xs7 ?xe7 ?xt7 ?xk7 ?xi7 ?xa7 ?xb7 ?xw7 ?xh7 ?xc7 ?xm7 ?xr7 ?xf7 ?xn7 ?xo7 ?xg8 ?xl8 ?xs8 ?xe8 ?xt8 ?xk8 ?xi8 ?xa8 ?xb8 ?xw8 ?xh8 ?xc8 ?xm8 ?xr8 ?xf8 ?xn8 ?xo8 ?zcn ?zct ?ps_BadBook_BadBook ?ps_Stray_BadBook ?ps_Stray_Stray ?ps_BadWindow_BadBook ?ps_BadWindow_Stray ?ps_BadWindow_BadState ?ps_BadWindow_NoMessage ?ps_BadWindow_BadMany ?ps_BadWindow_BadWindow ?z0 ?z1 ?z2 ?z3 ?z4 ?z5 ?z6 ?z7 ?z8 ?z9 ?z10 ?z11 ?z12 ?z13 ?z14 ?z15 ?y0 ?y1 ?y2 ?y3
    (case a0 => k_is); (case l0 => k_is); (case c0 => k_is); (case k0 => k_is); (case a1 => k_is); (case l1 => k_is)
    (case c1 => k_is); (case k1 => k_is); (case a2 => k_is); (case l2 => k_is); (case c2 => k_is); (case k2 => k_is)
    (case a3 => k_is); (case l3 => k_is); (case c3 => k_is); (case k3 => k_is); (case df3 => k_is); (case a4 => k_is)
    (case l4 => k_is); (case c4 => k_is); (case k4 => k_is); (case a5 => k_is); (case l5 => k_is); (case c5 => k_is)
    (case k5 => k_is); (case a6 => k_is); (case l6 => k_is); (case c6 => k_is); (case k6 => k_is); (case a7 => k_is)
    (case l7 => k_is); (case c7 => k_is); (case k7 => k_is); (case a8 => k_is); (case l8 => k_is); (case c8 => k_is)
    (case k8 => k_is); (case a9 => k_is); (case l9 => k_is); (case c9 => k_is); (case k9 => k_is); (case a10 => k_is)
    (case l10 => k_is); (case c10 => k_is); (case k10 => k_is); (case a11 => k_is); (case l11 => k_is); (case c11 => k_is)
    (case k11 => k_is); (case a12 => k_is); (case l12 => k_is); (case c12 => k_is); (case k12 => k_is); (case a13 => k_is)
    (case l13 => k_is); (case c13 => k_is); (case k13 => k_is); (case a14 => k_is); (case l14 => k_is); (case c14 => k_is)
    (case k14 => k_is); (case a15 => k_is); (case l15 => k_is); (case c15 => k_is); (case k15 => k_is); (case a16 => k_is)
    (case l16 => k_is); (case c16 => k_is); (case k16 => k_is); (case a17 => k_is); (case l17 => k_is); (case c17 => k_is)
    (case k17 => k_is); (case a18 => k_is); (case l18 => k_is); (case c18 => k_is); (case k18 => k_is); (case a19 => k_is)
    (case l19 => k_is); (case c19 => k_is); (case k19 => k_is); (case a20 => k_is); (case l20 => k_is); (case c20 => k_is)
    (case k20 => k_is); (case a21 => k_is); (case l21 => k_is); (case c21 => k_is); (case k21 => k_is); (case a22 => k_is)
    (case l22 => k_is); (case c22 => k_is); (case k22 => k_is); (case a23 => k_is); (case l23 => k_is); (case c23 => k_is)
    (case k23 => k_is); (case a24 => k_is); (case l24 => k_is); (case c24 => k_is); (case k24 => k_is); (case a25 => k_is)
    (case l25 => k_is); (case c25 => k_is); (case k25 => k_is); (case a26 => k_is); (case l26 => k_is); (case c26 => k_is)
    (case k26 => k_is); (case a27 => k_is); (case l27 => k_is); (case c27 => k_is); (case k27 => k_is); (case a28 => k_is)
    (case l28 => k_is); (case c28 => k_is); (case k28 => k_is); (case a29 => k_is); (case l29 => k_is); (case c29 => k_is)
    (case k29 => k_is); (case a30 => k_is); (case l30 => k_is); (case c30 => k_is); (case k30 => k_is); (case a31 => k_is)
    (case l31 => k_is); (case c31 => k_is); (case k31 => k_is); (case a32 => k_is); (case l32 => k_is); (case c32 => k_is)
    (case k32 => k_is); (case a33 => k_is); (case l33 => k_is); (case c33 => k_is); (case k33 => k_is); (case a34 => k_is)
    (case l34 => k_is); (case c34 => k_is); (case k34 => k_is); (case a35 => k_is); (case l35 => k_is); (case c35 => k_is)
    (case k35 => k_is); (case a36 => k_is); (case l36 => k_is); (case c36 => k_is); (case k36 => k_is); (case a37 => k_is)
    (case l37 => k_is); (case c37 => k_is); (case k37 => k_is); (case a38 => k_is); (case l38 => k_is); (case c38 => k_is)
    (case k38 => k_is); (case a39 => k_is); (case l39 => k_is); (case c39 => k_is); (case k39 => k_is); (case a40 => k_is)
    (case l40 => k_is); (case c40 => k_is); (case k40 => k_is); (case a41 => k_is); (case l41 => k_is); (case c41 => k_is)
    (case k41 => k_is); (case a42 => k_is); (case l42 => k_is); (case c42 => k_is); (case k42 => k_is); (case a43 => k_is)
    (case l43 => k_is); (case c43 => k_is); (case k43 => k_is); (case tbC => kernel_rfl); (case tbN => kernel_rfl); (case a44 => k_is)
    (case l44 => k_is); (case c44 => k_is); (case k44 => k_is); (case xg0 => k_is); (case xl0 => k_is); (case xs0 => k_is)
    (case xe0 => k_is); (case xt0 => k_is); (case xk0 => k_is); (case xi0 => k_is); (case xa0 => k_is); (case xb0 => k_is)
    (case xw0 => k_is); (case xh0 => k_is); (case xc0 => k_is); (case xm0 => k_is); (case xr0 => k_is); (case xf0 => k_is)
    (case xn0 => k_is); (case xo0 => k_is); (case xg1 => k_is); (case xl1 => k_is); (case xs1 => k_is); (case xe1 => k_is)
    (case xt1 => k_is); (case xk1 => k_is); (case xi1 => k_is); (case xa1 => k_is); (case xb1 => k_is); (case xw1 => k_is)
    (case xh1 => k_is); (case xc1 => k_is); (case xm1 => k_is); (case xr1 => k_is); (case xf1 => k_is); (case xn1 => k_is)
    (case xo1 => k_is); (case xg2 => k_is); (case xl2 => k_is); (case xs2 => k_is); (case xe2 => k_is); (case xt2 => k_is)
    (case xk2 => k_is); (case xi2 => k_is); (case xa2 => k_is); (case xb2 => k_is); (case xw2 => k_is); (case xh2 => k_is)
    (case xc2 => k_is); (case xm2 => k_is); (case xr2 => k_is); (case xf2 => k_is); (case xn2 => k_is); (case xo2 => k_is)
    (case xg3 => k_is); (case xl3 => k_is); (case xs3 => k_is); (case xe3 => k_is); (case xt3 => k_is); (case xk3 => k_is)
    (case xi3 => k_is); (case xa3 => k_is); (case xb3 => k_is); (case xw3 => k_is); (case xh3 => k_is); (case xc3 => k_is)
    (case xm3 => k_is); (case xr3 => k_is); (case xf3 => k_is); (case xn3 => k_is); (case xo3 => k_is); (case xg4 => k_is)
    (case xl4 => k_is); (case xs4 => k_is); (case xe4 => k_is); (case xt4 => k_is); (case xk4 => k_is); (case xi4 => k_is)
    (case xa4 => k_is); (case xb4 => k_is); (case xw4 => k_is); (case xh4 => k_is); (case xc4 => k_is); (case xm4 => k_is)
    (case xr4 => k_is); (case xf4 => k_is); (case xn4 => k_is); (case xo4 => k_is); (case xg5 => k_is); (case xl5 => k_is)
    (case xs5 => k_is); (case xe5 => k_is); (case xt5 => k_is); (case xk5 => k_is); (case xi5 => k_is); (case xa5 => k_is)
    (case xb5 => k_is); (case xw5 => k_is); (case xh5 => k_is); (case xc5 => k_is); (case xm5 => k_is); (case xr5 => k_is)
    (case xf5 => k_is); (case xn5 => k_is); (case xo5 => k_is); (case xg6 => k_is); (case xl6 => k_is); (case xs6 => k_is)
    (case xe6 => k_is); (case xt6 => k_is); (case xk6 => k_is); (case xi6 => k_is); (case xa6 => k_is); (case xb6 => k_is)
    (case xw6 => k_is); (case xh6 => k_is); (case xc6 => k_is); (case xm6 => k_is); (case xr6 => k_is); (case xf6 => k_is)
    (case xn6 => k_is); (case xo6 => k_is); (case xg7 => k_is); (case xl7 => k_is); (case xs7 => k_is); (case xe7 => k_is)
    (case xt7 => k_is); (case xk7 => k_is); (case xi7 => k_is); (case xa7 => k_is); (case xb7 => k_is); (case xw7 => k_is)
    (case xh7 => k_is); (case xc7 => k_is); (case xm7 => k_is); (case xr7 => k_is); (case xf7 => k_is); (case xn7 => k_is)
    (case xo7 => k_is); (case xg8 => k_is); (case xl8 => k_is); (case xs8 => k_is); (case xe8 => k_is); (case xt8 => k_is)
    (case xk8 => k_is); (case xi8 => k_is); (case xa8 => k_is); (case xb8 => k_is); (case xw8 => k_is); (case xh8 => k_is)
    (case xc8 => k_is); (case xm8 => k_is); (case xr8 => k_is); (case xf8 => k_is); (case xn8 => k_is); (case xo8 => k_is)
    (case zcn => k_is); (case zct => k_is); (case ps_BadBook_BadBook => k_is); (case ps_Stray_BadBook => k_is); (case ps_Stray_Stray => k_is); (case ps_BadWindow_BadBook => k_is)
    (case ps_BadWindow_Stray => k_is); (case ps_BadWindow_BadState => k_is); (case ps_BadWindow_NoMessage => k_is); (case ps_BadWindow_BadMany => k_is); (case ps_BadWindow_BadWindow => k_is); (case z0 => k_is)
    (case z1 => k_is); (case z2 => k_is); (case z3 => k_is); (case z4 => k_is); (case z5 => k_is); (case z6 => k_is)
    (case z7 => k_is); (case z8 => k_is); (case z9 => k_is); (case z10 => k_is); (case z11 => k_is); (case z12 => k_is)
    (case z13 => k_is); (case z14 => k_is); (case z15 => k_is); (case y0 => k_is); (case y1 => k_is); (case y2 => k_is)
    (case y3 => k_is); (case lI => k_is); (case cI => k_is); (case kI => k_is); (case tI => k_is)
