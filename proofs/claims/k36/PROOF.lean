import PyProof.Rows.All
import Wide.All
import OpenK.AllK
import Wide.FinOn
import HandS.ForMost
import HandS.Strs
import HandS.SetFor
import PyProof.Rows.SetFrom
import HandS.IsInst
import HandS.RaiseMore
import PyProof.ReprRoads
import KE.KDictPairs
import HandS.TupAny
import HandS.Iter
import HandS.Walk
import KE.GoesEnum
import HandS.Style
import HandS.Flow
import HandS.Codes
import HandS.Conv
import HandS.Defaults
import PySem.Challenge.RW_neverfour_k36_three_wires_and_knots
set_option Elab.async false
set_option linter.all false
set_option maxRecDepth 100000
namespace Nv
open PySem PySem.Spec PyProof.Rows L2
section
variable {P : Program} {w : World} {A : Around} {E : Value → Shared → Prop} {s : Shared}
/-- an empty set as set(..) begins it -/
abbrev noSet (w : World) : Obj := { cls := .type "set", dict := none, data := .set #[] 0 (.fresh 0 0 (!w.params.followText "set-order")) }

/-- set.__init__ of a list of ints -/
theorem fillSet {S l : Addr} {xs : Array Value} {ns : List Int} {Q : Value → Shared → Prop} (quiet : A.handled = none)
    (hS : s.heap.get? S = some (noSet w)) (hl : s.heap.IsList l xs) (hi : IntsAre xs.toList ns) (room : ns.length + 1 < scanBound)
    (k : ∀ (g : Heap) (t c : Nat), SetR w g S (fun j => decide (j ∈ ns)) c → c ≤ ns.length → (∀ b o, b ≠ S → s.heap.get? b = some o → g.get? b = some o) → Q .none { s with heap := g, toks := t }) :
    codeAny (model P w) A (.call (.builtin "set.__init__") ⟨[.ref S, .ref l], []⟩) (wants Q E) s := by
  have sz : xs.size = ns.length := by have q := IntsAre.length hi; rwa [Array.length_toList] at q
  refine codeAny_call_builtin F.called_set.init.plain F.entry_set_init (check_set_init_1 ⟨_, hS, rfl⟩ ?_)
  obtain ⟨⟨lc, ld, ldata, lsl⟩, hol, hcl, nl, hdl⟩ := hl
  simp only at hcl hdl
  subst hcl hdl
  have sub1 := F.sub_list_set
  have sub2 := F.sub_list_frozenset
  have nodict : (Value.type "list" == Value.type "dict") = false := by decide
  have lst : s.heap.IsList l xs := ⟨_, hol, rfl, nl, rfl⟩
  have lS : l ≠ S := fun e => by
    subst e
    exact absurd (congrArg Obj.cls (Option.some.inj (hol.symm.trans hS))) (show ¬ Value.type "list" = Value.type "set" by decide)
  unfold Builtin.«set.__init__» noKeywords Builtin.Frozenset.updateFrom
  generalize hPI : pyIter = PI
  wp_walk
  subst hPI
  refine wpAny_pyIter_list lst ?_
  refine wpAny_bind (wpAny_runValue ?_)
  have lt1 : l < s.heap.objs.size := Heap.lt_size hol
  have lt2 : S < s.heap.objs.size := Heap.lt_size hS
  have q3 : A.in1.in1.handled = none := by simp [quiet]
  have apart : S ∉ [s.heap.objs.size, l] := by
    intro z
    rcases List.mem_cons.mp z with e | z
    · exact absurd e (Nat.ne_of_lt lt2)
    · exact lS (List.mem_singleton.mp z).symm
  have each : ∀ (i : Nat) (v : Value), xs[i]? = some v → ∃ n t, ns[i]? = some n ∧ v = .int n t := fun i v hv => by
    have b : i < ns.length := by rw [← sz]; exact (Array.getElem?_eq_some_iff.mp hv).1
    obtain ⟨t, e⟩ := IntsAre.int_at hi i v (by rw [Array.getElem?_toList]; exact hv)
    refine ⟨ns[i], t, List.getElem?_eq_getElem b, ?_⟩
    rw [e, List.getD_eq_getElem?_getD, List.getElem?_eq_getElem b]
    rfl
  refine set_update_ints ((Walks.list q3 s.heap.objs.size l (Nat.ne_of_lt lt1) xs).toS) S apart ns sz room each (xs.size - 0) 0 _ (by omega) (Nat.zero_le _) ⟨⟨_, Heap.get?_push_size _ rfl, rfl, rfl⟩, lst.push _⟩ ?z ?r
  case z => exact ⟨0, Nat.le_refl 0, setR_new_at (Heap.get?_push_of_some _ hS)⟩
  case r =>
    intro s2 c mv hc R
    obtain ⟨g, g2, d2, t2, o2⟩ := s2
    have e1 : g2 = s.gens := mv.gens
    have e2 : d2 = s.drawn := mv.drawn
    have e3 : o2 = s.os := mv.os
    subst e1 e2 e3
    show wpAny _ _ _ _ _ _
    refine wpAny_pure ?_
    show wpAny _ _ (ret Value.none) _ _ _
    rw [sz] at hc
    refine wpAny_pure (k g t2 c R hc fun b o nb e => ?_)
    have hb : b < s.heap.objs.size := Heap.lt_size e
    refine mv.heap b o (fun z => ?_) (Heap.get?_push_of_some _ e)
    rcases List.mem_cons.mp z with z | z
    · exact nb z
    · exact absurd (List.mem_singleton.mp z) (Nat.ne_of_lt hb)
/-- set(l), l a list of ints -/
theorem setOf {l : Addr} {xs : Array Value} {ns : List Int} {Q : Value → Shared → Prop} (quiet : A.handled = none) (hl : s.heap.IsList l xs) (hi : IntsAre xs.toList ns) (room : ns.length + 1 < scanBound)
    (k : ∀ (g : Heap) (t c : Nat), SetR w g s.heap.objs.size (fun j => decide (j ∈ ns)) c → c ≤ ns.length → (∀ b o, s.heap.get? b = some o → g.get? b = some o) → Q (.ref s.heap.objs.size) { s with heap := g, toks := t }) :
    wpAny (model P w) A (call (.type "set") [.ref l]) Q E s := by
  obtain ⟨c0, tl, mro⟩ := F.called_set.mro
  have made := F.called_set.made
  have sub := F.called_set.sub
  refine wpAny_call (codeAny_of_tree ?_)
  show wpAny _ _ (callAny (.type "set") _) _ _ _
  refine wpAny_pure ⟨Code.quiet_builtin _ (by decide +kernel), codeAny_builtin F.entry_type_call ?_⟩
  rw [Around.under_plain (weight_type_call_type "set" [.ref l] []) rfl]
  have f1 := F.called_set.notType
  have f2 := F.called_set.canCreate
  have f3 := F.typeCall_set_1 (.ref l)
  repeat (any_goals (first | assumption | wp_step))
  refine codeAny_mono (code_set_led1 (w := w) (.ref l) (E := E) (Q₁ := fun v s1 => v = .ref s.heap.objs.size ∧ s1 = { s with heap := s.heap.push (noSet w) }) ⟨rfl, rfl⟩) fun r s1 hr => ?_
  rcases r with e | fl
  · exact hr
  · cases fl with
    | ret v =>
      obtain ⟨rfl, rfl⟩ := hr
      have at0 : (s.heap.push (noSet w)).get? s.heap.objs.size = some (noSet w) := Heap.get?_push_size _ rfl
      have ty : Shared.TypeIs { s with heap := s.heap.push (noSet w) } (.ref s.heap.objs.size) "set" := ⟨_, at0, rfl⟩
      have f4 := F.called_set.init.lookup
      have f5 := F.called_set.init.bind (.ref s.heap.objs.size)
      repeat (any_goals (first | assumption | wp_step))
      refine codeAny_mono (fillSet (E := E) (Q := fun v s2 => v = .none ∧ ∃ g t c, s2 = { s with heap := g, toks := t } ∧ SetR w g s.heap.objs.size (fun j => decide (j ∈ ns)) c ∧ c ≤ ns.length ∧ ∀ b o, s.heap.get? b = some o → g.get? b = some o)
        (by simp [quiet]) at0 (hl.push _) hi room fun g t c R hc kp => ⟨rfl, g, t, c, rfl, R, hc, fun b o e => kp b o (Nat.ne_of_lt (Heap.lt_size e)) (Heap.get?_push_of_some _ e)⟩) fun r2 s2 hr2 => ?_
      rcases r2 with e | fl2
      · exact hr2
      · cases fl2 with
        | ret v2 =>
          obtain ⟨rfl, g, t, c, rfl, R, hc, kp⟩ := hr2
          repeat (any_goals (first | assumption | wp_step))
          exact k g t c R hc kp
        | _ => exact hr2.elim
    | _ => exact hr.elim
end
/-- set(l): the new set -/
def rSetI (K : PySem.W.Frag) (w : World) : List V → Hp → VK → Prop := fun xs H Q => ∃ (l : Addr) (ns : List Int), xs = [.ref l] ∧ SqL K H l (ns.map V.int) ∧ ns.length ≤ 4000 ∧ ∀ (p : Addr) (c : Nat), H p = none → c ≤ ns.length → Q (.ref p) (upd H p (SetO w p (fun j => decide (j ∈ ns)) c))
theorem cr_setI {X : Cx} (hc : X.calm = true) : CallR X (.type "set") (rSetI X.K X.w) := by
  intro pins s σ H xs us Q I r h
  obtain ⟨l, ns, rfl, hq, hz, q⟩ := h
  obtain ⟨u, rfl, rx⟩ := vals1 r
  cases rx
  obtain ⟨its, rv, ⟨o, n, ho, hcl, hd, hdat⟩, _⟩ := I.list hq
  refine setOf (I.ok.hd hc) (show s.heap.IsList l its.toArray from ⟨o, ho, hcl, n, hdat⟩) (ints_of_vals rv) (by unfold scanBound; omega) fun g t c R hcn kp => ?_
  have new : H s.heap.objs.size = none := I.hok.fresh (Nat.le_refl _)
  exact ⟨.ref s.heap.objs.size, upd H s.heap.objs.size (SetO X.w s.heap.objs.size (fun j => decide (j ∈ ns)) c), I.laid (t' := t) kp (Nat.le_refl _) (setO_new R), rfl, q _ c new hcn⟩
end Nv
set_option Elab.async false
set_option linter.all false
set_option maxRecDepth 100000
namespace Nv
open PySem PySem.Spec PyProof.Rows L2
/-! ### tuples whose object is known to have no dict of its own -/
def TupZ (H : Hp) (a : Addr) (xs : List V) : Prop := ∃ o : Obj, H a = some (.frz o (.tup xs)) ∧ o.dict = none
theorem TupZ.sq {K : PySem.W.Frag} {H : Hp} {a : Addr} {xs : List V} (h : TupZ H a xs) : SqT K H a xs := by
  obtain ⟨o, e, _⟩ := h
  exact .inl (.inr ⟨o, e⟩)
def rTupZ (K : PySem.W.Frag) : List V → Hp → VK → Prop := fun xs H Q => ∃ (p : Addr) (ys : List V), xs = [.ref p] ∧ SqL K H p ys ∧ ∀ (l : Addr) (H' : Hp), H l = none → (∃ o : Obj, o.dict = none ∧ H' = upd H l (.frz o (.tup ys))) → Q (.ref l) H'
theorem call_tupZ {X : Cx} : CallR X (.type "tuple") (rTupZ X.K) := by
  intro pins s σ H xs us Q I r h
  obtain ⟨p, ys, rfl, hq, q⟩ := h
  obtain ⟨u, rfl, rx⟩ := vals1 r
  cases rx
  obtain ⟨its, rv, pl, hz⟩ := I.list hq
  have hlen := rv.length
  refine call_tuple_list pl.isList (fun g kp => ?_) (by simp only [List.size_toArray]; omega)
  have I1 : Inv X pins σ H { s with heap := g } := I.kept (t' := s.toks) kp
  have I2 : Inv X pins σ (upd H g.objs.size (.frz { cls := .type "tuple", data := .seq its.toArray } (.tup ys))) { s with heap := g.push { cls := .type "tuple", data := .seq its.toArray } } :=
    I1.laid (t' := s.toks) (fun b o e => Heap.get?_push_of_some _ e) (Nat.le_refl _) (show ObjOk X.prog X.w _ _ _ (.frz _ (.tup ys)) from ⟨Heap.get?_push_size _ rfl, hz, its, rv, IsTup.new _ _⟩)
  exact ⟨.ref g.objs.size, _, I2, rfl, q _ _ (I1.hok.fresh (Nat.le_refl _)) ⟨_, rfl, rfl⟩⟩

theorem pickL {α : Type} {n : Nat} {R : Nat → α → Prop} (h : ∀ j, j < n → ∃ x, R j x) : ∃ l : List α, l.length = n ∧ ∀ j x, l[j]? = some x → R j x := by
  induction n with
  | zero => exact ⟨[], rfl, fun j x e => by simp at e⟩
  | succ n ih =>
    obtain ⟨l, hl, hR⟩ := ih fun j hj => h j (Nat.lt_succ_of_lt hj)
    obtain ⟨x, hx⟩ := h n (Nat.lt_succ_self n)
    refine ⟨l ++ [x], by simp [hl], fun j y e => ?_⟩
    by_cases hj : j < n
    · rw [List.getElem?_append_left (by omega)] at e
      exact hR j y e
    · rw [List.getElem?_append_right (by omega)] at e
      have hj2 : j = n := by
        have := (List.getElem?_eq_some_iff.mp e).1
        simp at this
        omega
      subst hj2
      rw [hl, Nat.sub_self] at e
      cases e
      exact hx
/-! ### dict(t), t such a tuple of pairs -/
def rDictT (K : PySem.W.Frag) : List V → Hp → VK → Prop := fun xs H Q => ∃ (a : Addr) (ps : List Addr) (kvs : List (Key × V)), xs = [.ref a] ∧ TupZ H a (ps.map V.ref) ∧ Paired (fun p kv => SqT K H p [kV kv.1, kv.2]) ps kvs ∧
  ∀ p, H p = none → Q (.ref p) (upd H p (.dK (mergeK [] kvs)))
theorem call_dictT {X : Cx} (hc : X.calm = true) : CallR X (.type "dict") (rDictT X.K) := by
  intro pins s σ H xs us Q I r h
  obtain ⟨a, ps, kvs, rfl, ⟨o, ha, hd⟩, hp, q⟩ := h
  obtain ⟨u, rfl, rx⟩ := vals1 r
  cases rx
  have ok := I.hok a _ ha
  obtain ⟨hget, hz, its, rv, o2, ho2, hcl, n, hdat⟩ := ok
  have eo : o = o2 := Option.some.inj (hget.symm.trans ho2)
  subst eo
  have ei := refs_at rv
  subst ei
  rw [List.length_map] at hz
  obtain ⟨prs, rel, hl, hpr⟩ := pairs_of I hp
  -- the pairs as values
  obtain ⟨ws, wl, hw⟩ := pickL (n := prs.length) (R := fun j (x : Value × Value) => ∃ b kv, ps[j]? = some b ∧ prs[j]? = some kv ∧ kv.2 = x.2 ∧ IsTup s.heap b #[x.1, x.2] ∧ keyIs kv.1 x.1 = true) fun j hj => by
    obtain ⟨b, u, e1, e2, e3⟩ := hpr j prs[j] (List.getElem?_eq_getElem hj)
    exact ⟨(u, prs[j].2), b, prs[j], e1, List.getElem?_eq_getElem hj, rfl, e2, e3⟩
  have P := PairArg.tuple (prog := X.prog) (w := X.w) a (ps.map Value.ref).toArray (fun j => ps.getD j 0) ws
  refine PySem.call_dict_pairs (knd := mixKind X.prog X.w) (kvs := prs) P (I.ok.hd hc) ⟨⟨o, n, hget, hcl, hd, hdat⟩, by simp [wl, hl], fun j k v e => ?_⟩ ⟨by rw [wl], fun i key v e => ?_⟩ (by rw [wl, hl]; exact hz) fun g tk hd' kp => ?_
  · obtain ⟨b, kv, e1, e2, e3, e4, e5⟩ := hw j (k, v) e
    refine ⟨by simp [e1], ?_⟩
    show PairAt s.heap (ps.getD j 0) k v
    rw [List.getD_eq_getElem?_getD, e1]
    obtain ⟨ob, h1, h2, m, h3⟩ := e4
    exact .inl ⟨ob, h1, h2, m, h3⟩
  · obtain ⟨b, kv, e1, e2, e3, e4, e5⟩ := hw i (key, v) e
    obtain ⟨k0, v0⟩ := kv
    cases e3
    exact ⟨k0, e2, e5⟩
  · have kall : ∀ b o, s.heap.get? b = some o → g.get? b = some o := fun b o e => kp b o (by simp) e
    have hm : (s.heap.objs.size == sysModules) = false := beq_eq_false_iff_ne.mpr (Nat.ne_of_gt I.big)
    have hlen : (mergeK [] kvs).length ≤ sizeLine := by
      refine Nat.le_trans (length_mergeK kvs []) ?_
      rw [List.length_nil, Nat.zero_add, rel.length, hl]
      exact hz
    exact ⟨.ref s.heap.objs.size, upd H s.heap.objs.size (.dK (mergeK [] kvs)), I.laid (t' := tk) kall (Nat.le_refl _) (show ObjOk X.prog X.w _ _ _ (.dK (mergeK [] kvs)) from ⟨hlen, hm, merged [] prs, KV.merge rel .nil, hd'⟩), rfl, q _ (I.hok.fresh (Nat.le_refl _))⟩

/-! ### repr -/
theorem isDisp_of {K : PySem.W.Frag} {H : Hp} {a : Addr} {d : PyData} (h : Dp K H (.ref a) d) : (∃ ds, d = .list ds) ∨ ∃ ds, d = .tuple ds := by
  cases h with
  | lst _ _ => exact .inl ⟨_, rfl⟩
  | tup _ _ => exact .inr ⟨_, rfl⟩
/-- repr(x) of data at an address; nothing is being shown around -/
def rRepr (K : PySem.W.Frag) : List V → Hp → VK → Prop := fun xs H Q => ∃ (a : Addr) (d : PyData), xs = [.ref a] ∧ Dp K H (.ref a) d ∧ d.showable = true ∧ d.hasDict = false ∧ d.depth ≤ 60 ∧ d.shown.length ≤ sizeLine ∧ Q (.str d.shown) H
theorem call_reprD {X : Cx} (hu : X.A.units + 64 < cLine) (hg : X.A.guards = some []) : CallR X (.builtin "repr") (rRepr X.K) := by
  intro pins s σ H xs us Q I r h
  obtain ⟨a, d, rfl, hd, h1, h2, h3, h4, q⟩ := h
  obtain ⟨u, rfl, rx⟩ := vals1 r
  obtain ⟨as, rd⟩ := Dp.reads I d _ _ hd rx
  cases rx
  refine repr_of_reads' rd h1 (fun z => by rw [h2] at z; cases z) hg (by omega) (fun b o e => e) (fun g u tk kp => ?_) h4
  exact ⟨.str d.shown, H, I.kept (t' := tk) kp, ⟨u, rfl⟩, q⟩
end Nv
set_option Elab.async false
set_option linter.all false
set_option maxRecDepth 100000
namespace Nv
open PySem PySem.Spec PyProof.Rows L2
/-! ### defs that are called where nothing is being shown (repr looks at that) -/
structure FnG (P : Program) (w : World) (K : PySem.W.Frag) (mg : Str → Option Value) (base : Heap) (CX : CXT) (k : Nat) (f : Addr) (fd : FuncData) (ps : List Str) (sp : Sp) : Prop where
  len : ∀ vs H Q E, sp vs H Q E → vs.length = ps.length
  run : ∀ (A : Around) (outer : List Env) (s : Shared) (H : Hp) (args : Args) (us : List Value) (vs : List V) (Q : VK) (E : XK), A.guards = some [] → Room k A → Env0 P w K mg base A outer s H →
    BindsTo s fd args (ps.zip us) → Vals vs us → sp vs H Q E → codeAny (model P w) A (.call (.ref f) args) (CR CX outer P w H s Q E) s
section
variable {P : Program} {w : World} {K : PySem.W.Frag} {mg : Str → Option Value} {base : Heap} {CX : CXT}
theorem FnG.of {k : Nat} {f : Addr} {fd : FuncData} {ps : List Str} {sp : Sp} (F : FnOk P w K mg base CX k f fd ps sp) : FnG P w K mg base CX k f fd ps sp :=
  ⟨F.len, fun A outer s H args us vs Q E _ r e b v h => F.run A outer s H args us vs Q E r e b v h⟩
/-- a def by its body; in the body nothing is being shown -/
theorem fnG_of {k : Nat} {f : Addr} {name qual : Str} {params : Arguments} {body : List Stmt} {scope : Scope} {dV kV doc pm cdv ct oc : Value} {an od : Option Addr} {osl : Array (Option Value)} {N ps : List Str} {sp : Sp}
    (lk : K.lookup f = some ⟨oc, od, .func (PySem.W.fnOf name qual params body scope dV kV doc pm an cdv ct), osl⟩) (cd : PySem.W.codeIn K cdv qual = true) (S : FnScope N ps scope) (len : ∀ vs H Q E, sp vs H Q E → vs.length = ps.length)
    (walk : ∀ (A : Around) (outer : List Env) (s : Shared) (H : Hp) (vs : List V) (Q : VK) (E : XK), A.guards = some [] → Room k (A.deeper (envOfC qual scope s.heap.objs.size f cdv)) → sp vs H Q E →
      ∃ t, PSs (cxOf CX P w K mg base N qual scope f cdv A outer s H E) body t ∧ t { nx := fun _ H' => Q .non H', rt := Q } (start N vs) H) :
    FnG P w K mg base CX (k + 1) f (PySem.W.fnOf name qual params body scope dV kV doc pm an cdv ct) ps sp := by
  refine ⟨len, fun A outer s H args us vs Q E hg room e0 bind rel want => ?_⟩
  have here : ∀ b o, base.get? b = some o → s.heap.get? b = some o := fun b o e => (e0.bs b o e).1
  have KX : K.In s.heap := e0.mod.kin.keeps here
  have lim : s.heap.NoLimit := e0.mod.nolimit.keeps here
  refine codeAny_call_function room.depth (KX _ _ lk) rfl S.co S.gen rfl (PySem.W.codeRec_of KX cd) (bind _ _ _ _ ?_)
  refine wpAny_newFunctionEnv_cells S.kind (fun ⟨n, v⟩ hy => ?_) fun env he s1 x => ?_
  · rcases S.par n (List.of_mem_zip hy).1 with z | z
    · exact .inl z
    · exact .inr ⟨z, PySem.W.cellsFrom_some _ _ _ (.inl z)⟩
  · subst he
    refine ⟨lim.keeps x.toInCall.keep, codeAny_func ?_⟩
    obtain ⟨t, ht, hq⟩ := walk A outer s H vs Q E hg (room.deeper _) want
    refine wpAny_mono (ht.run [] s1 (start N vs) H _ (inv_start S room.hd e0 (len _ _ _ _ want) rel x) hq) (fun fl s' hs => ?_) fun e s' hs => hs
    cases fl with
    | ret u =>
      obtain ⟨v, σ', H', J, rv, q⟩ := hs
      exact ⟨v, H', J.os, J.bare, J.base, J.hok, rv, q⟩
    | next =>
      obtain ⟨σ', H', J, q⟩ := hs
      exact ⟨V.non, H', J.os, J.bare, J.base, J.hok, rfl, q⟩
    | brk => exact (hs.choose_spec.choose_spec.2 : False).elim
    | cont => exact (hs.choose_spec.choose_spec.2 : False).elim
theorem FunG.ok {x qual : Str} {st : Stmt} {f : Addr} {fd : FuncData} {N ps : List Str} {k : Nat} {sp : Sp} (F : Fun K x qual st f fd) (S : FnScope N ps (defScope st)) (len : ∀ vs H Q E, sp vs H Q E → vs.length = ps.length)
    (walk : ∀ (cdv : Value) (A : Around) (outer : List Env) (s : Shared) (H : Hp) (vs : List V) (Q : VK) (E : XK), A.guards = some [] → Room k (A.deeper (envOfC qual (defScope st) s.heap.objs.size f cdv)) → sp vs H Q E →
      ∃ t, PSs (cxOf CX0 P w K mg base N qual (defScope st) f cdv A outer s H E).nox (defBody st) t ∧ t { nx := fun _ H' => Q .non H', rt := Q } (start N vs) H) : FnG P w K mg base CX0 (k + 1) f fd ps sp := by
  obtain ⟨oc, od, kV, doc, pm, an, cdv, ct, osl, rfl, lk, cd⟩ := F.ex
  refine fnG_of lk cd S len fun A outer s H vs Q E hg hr want => ?_
  obtain ⟨t, h, q⟩ := walk cdv A outer s H vs Q E hg hr want
  exact ⟨t, h.nox, q⟩
end
section
variable {X : Cx} {CX : CXT} {k : Nat} {f : Addr} {fd : FuncData} {ps : List Str} {sp : Sp} {dvs : List V} {ds : List Value} {E : XK} {x : Str} {p pos : Pos} {e : Expr} {es : List Expr} {t : TA}
/-- a call of such a def where nothing is being shown -/
theorem pe_callG (F : FnG X.prog X.w X.K X.mg X.base CX k f fd ps sp) (hG : X.A.guards = some []) (hr : Room k X.A) (hg : Gl X x) (hm : X.mg x = some (.ref f)) (hk : PySem.W.keepIn X.K (.ref f) = true) (hb : Binds X.K fd ps ds) (hd : Vals dvs ds) (hx : Passes CX X E)
    (ha : PA X (e :: es) t) (hdb : (x == ("__debug__" : Str)) = false := by decide) (he : starEach (e :: es) X.env = (false, eval e X.env) :: starEach es X.env := by rfl) (hpl : (backTo pos (starEach es X.env)).any (·.1) = false := by rfl) :
    PE X (.Call (.Name x p) (e :: es) [] pos) (tCall sp dvs E t) := by
  refine ⟨fun pins s σ H Q I h => wpAny_Call_Name_kw (ld_glob I hg hm (PySem.W.callWith_K (h₀ := X.base) I.ok.mod.kin hk (thn (ha.run pos pins s σ H _ I h) fun us s1 ⟨vs, H1, I1, r, q⟩ => ⟨I1.kIn, ?_⟩) he hpl) hdb)⟩
  have r2 : Vals (vs ++ dvs) (us ++ ds) := r.append hd
  have hl : (us ++ ds).length = ps.length := by rw [← r2.length]; exact F.len _ _ _ _ q
  refine wpAny_call (codeAny_mono (F.run X.A X.stack s1 H1 ⟨us, []⟩ (us ++ ds) (vs ++ dvs) Q E hG hr I1.env0 (hb s1 us I1.kIn hl) r2 q) fun rr s' hq => ?_)
  rcases rr with ee | fl
  · exact hx pins σ H1 s1 ee s' I1 hq
  · cases fl with
    | ret u => exact I1.after hq
    | next => exact hq.elim
    | brk => exact hq.elim
    | cont => exact hq.elim
end
/-! ### the end: the law itself, such a def -/
theorem script_gone {P : Program} {w : World} {K : PySem.W.Frag} {h : Heap} {a : Addr} {xs : List Value} {ns : List Int} (KX : K.In h) (ha : h.get? a = some { cls := .type "list", data := .seq xs.toArray }) (hi : IntsAre xs ns) (hl : ns.length ≤ sizeLine) :
    ∃ H : Hp, Only H ∧ SqL K H a (ns.map V.int) ∧ HOk P w H h ∧ (∀ b u, H b = some u → b = a ∧ K.lookup a = none) := by
  have rv := vals_ints hi
  cases hk : K.lookup a with
  | some o =>
    obtain rfl := Option.some.inj ((KX a o hk).symm.trans ha)
    refine ⟨fun _ => none, fun _ => .inl rfl, .inr ⟨_, xs.toArray, _, hk, rfl, rfl, rfl, by rw [List.size_toArray, hi.length]; exact hl, by simpa using rv⟩, fun b u z => (by have z' : (none : Option HO) = some u := z; cases z'), fun b u z => (by have z' : (none : Option HO) = some u := z; cases z')⟩
  | none =>
    have on : ∀ b u, (if b = a then some (HO.frz { cls := .type "list", data := .seq xs.toArray } (.lst (ns.map V.int))) else none) = some u → b = a ∧ u = HO.frz { cls := .type "list", data := .seq xs.toArray } (.lst (ns.map V.int)) := fun b u z => by
      split at z
      · exact ⟨by assumption, (Option.some.inj z).symm⟩
      · cases z
    refine ⟨fun b => if b = a then some (.frz { cls := .type "list", data := .seq xs.toArray } (.lst (ns.map V.int))) else none, fun b => ?_, .inl (.inr ⟨_, if_pos rfl⟩), fun b u z => ?_, fun b u z => ⟨(on b u z).1, rfl⟩⟩
    · by_cases hb : b = a
      · exact .inr ⟨_, _, if_pos hb⟩
      · exact .inl (if_neg hb)
    · obtain ⟨rfl, rfl⟩ := on b u z
      exact ⟨ha, by rw [List.length_map]; exact hl, xs, _, rv, ha⟩
theorem endG {l : PySem.W.OpenLaw} {n k : Nat} {q : Program} {loose : List Str} {XP : (Str → Option Value) → Heap → Prop} {YP : World → Heap → Prop} {d : DefRec} {K : Params → PySem.W.Frag} {sp : PySem.W.Frag → Sp} {x : Str}
    (hn : l.most = some n) (hn2 : n ≤ sizeLine) (hdf : d.params.defaults = []) (hr : Room k callerA) (hY : ∀ (w : World) (h : Heap), YP w h → (K w.params).In h)
    (F : ∀ (w : World) (mg : Str → Option Value) (fa : Addr) (h : Heap), (K w.params).In h → h.Ns mainGlobals mg → mg d.name = some (.ref fa) →
      ∃ fd : FuncData, (∀ (s : Shared) (u : Value), BindsTo s fd ⟨[u], []⟩ [(x, u)]) ∧ ∀ base : Heap, (K w.params).In base → base.Ns mainGlobals mg → FnG l.prog w (K w.params) mg base CX0 k fa fd [x] (sp (K w.params)))
    (hsp : ∀ (K : PySem.W.Frag) (H : Hp) (a : Addr) (ns : List Int), ns.length ≤ n → SqL K H a (ns.map V.int) → sp K [.ref a] H (fun v _ => v = .bl true) fun _ _ _ => False) :
    PySem.W.WalkO q loose XP YP l.row.toRowW d [] (fun f vs => PySem.call f vs) := by
  refine Att.attach_call hn hdf fun w s₀ s1 mg mb fa o pm cd doc a vs ns G Y ho hd hcd hmg hobj hints hlen hg => ?_
  have KX := hY w _ Y
  obtain ⟨fd, hb, hF⟩ := F w mg fa _ KX G.T.g hmg
  have small : ns.length ≤ sizeLine := Nat.le_trans hlen hn2
  obtain ⟨H, only, seen, hok, dom⟩ := script_gone (P := l.prog) (w := w) KX hobj hints small
  -- the heap without the script
  have free : ∀ {b : Addr} {o : Obj}, s1.heap.get? b = some o → (∀ xs k, o.data ≠ .seq xs k) → H b = none := fun {b o} e ne => by
    cases q : H b with
    | none => rfl
    | some u =>
      obtain ⟨rfl, _⟩ := dom b u q
      rw [hobj] at e
      cases e
      exact (ne _ _ rfl).elim
  have ns : ∀ {b : Addr} {m : Str → Option Value}, s1.heap.Ns b m → (hidT s1.heap H).Ns b m := fun {b m} ⟨o, es, ep, e, dd, r⟩ => ⟨o, es, ep, hidT_get e (free e (by rw [dd]; intro _ _ z; cases z)), dd, r⟩
  have inK : (K w.params).In (hidT s1.heap H) := fun b o e => hidT_get (KX b o e) (by
    cases q : H b with
    | none => rfl
    | some u =>
      obtain ⟨rfl, z⟩ := dom b u q
      rw [z] at e
      cases e)
  have M : Mod (K w.params) mg (hidT s1.heap H) := ⟨inK, ns G.T.g, ⟨mb, ns G.T.b, G.T.builtins⟩, let ⟨mc, h1, h2⟩ := G.T.nolimit; ⟨mc, ns h1, h2⟩⟩
  have e0 : Env0 l.prog w (K w.params) mg (hidT s1.heap H) callerA [] s1 H := ⟨rfl, M, fun b o e => of_hidT e, Nat.le_of_eq (hidT_size _ _), trivial, fun b z => absurd (show b ∈ ([] : List Addr) from z) (by simp), hok, AllBare.of_eq hg⟩
  refine codeAny_mono ((hF _ inK (ns G.T.g)).run callerA [] s1 H ⟨[.ref a], []⟩ [.ref a] [.ref a] _ _ rfl hr e0 (hb s1 (.ref a)) (.cons rfl .nil) (hsp _ H a _ hlen seen)) fun r s' h => ?_
  rcases r with e | fl
  · exact (h : False).elim
  · cases fl with
    | next => exact (h : False).elim
    | brk => exact (h : False).elim
    | cont => exact (h : False).elim
    | ret u =>
      obtain ⟨v, H', os, bare, un, hok', rv, qv⟩ := h
      obtain rfl : v = .bl true := qv
      obtain rfl : u = Value.bool true := rv
      refine ⟨rfl, OldK.of_keep fun b o e => ?_, os, bare⟩
      cases z : H b with
      | none => exact un.keep b o e z (fun z => absurd (show b ∈ ([] : List Addr) from z) (by simp)) (by simp)
      | some u =>
        obtain ⟨ob, ys, z2⟩ : ∃ ob ys, H b = some (.frz ob (.lst ys)) := by
          rcases only b with z3 | z3
          · rw [z3] at z; cases z
          · exact z3
        obtain ⟨g1, _⟩ := hok b _ z2
        obtain ⟨g2, _⟩ := hok' b _ (un.frzs b ob _ z2)
        rw [e] at g1
        cases g1
        exact g2
end Nv
set_option Elab.async false
set_option linter.all false
set_option maxRecDepth 100000
namespace Nv
open PySem PySem.Spec PyProof.Rows L2
/-! ### the layer's rules with the written part named (within a comprehension's block) -/
section
variable {X : Cx} (K : PySem.W.Frag)
theorem ix_listK (h : X.K = K := by rfl) : IxR X (rIxL K) := by subst h; exact ix_list
theorem ix_tupK (h : X.K = K := by rfl) : IxR X (rIxT K) := by subst h; exact ix_tup
theorem op_in_seqK (h : X.K = K := by rfl) : OpR X (compareOp .In) (rIn K false) := by subst h; exact op_in_seq
theorem op_notIn_seqK (h : X.K = K := by rfl) : OpR X (compareOp .NotIn) (rIn K true) := by subst h; exact op_notIn_seq
def rLen (K : PySem.W.Frag) : List V → Hp → VK → Prop := fun xs H Q => ∃ p ys, xs = [.ref p] ∧ (SqL K H p ys ∨ SqT K H p ys) ∧ Q (.int ys.length) H
theorem call_len_seqK (h : X.K = K := by rfl) : CallR X (.builtin "len") (rLen K) := by subst h; exact call_len_seq
theorem mt_indexK (h : X.K = K := by rfl) : MtR X "list.index" (rIndex K) := by subst h; exact mt_index
theorem call_tupZK (h : X.K = K := by rfl) : CallR X (.type "tuple") (rTupZ K) := by subst h; exact call_tupZ
def rListOf (K : PySem.W.Frag) : List V → Hp → VK → Prop := fun xs H Q => ∃ p ys, xs = [.ref p] ∧ (SqL K H p ys ∨ SqT K H p ys) ∧ ∀ l, H l = none → Q (.ref l) (upd H l (.lst ys))
theorem call_list_ofK (h : X.K = K := by rfl) : CallR X (.type "list") (rListOf K) := by subst h; exact call_list_of
theorem call_dictTK (h : X.K = K := by rfl) (hc : X.calm = true := by rfl) : CallR X (.type "dict") (rDictT K) := by subst h; exact call_dictT hc
theorem cr_setIK (w : World) (h : X.K = K := by rfl) (h2 : X.w = w := by rfl) (hc : X.calm = true := by rfl) : CallR X (.type "set") (rSetI K w) := by subst h h2; exact cr_setI hc
theorem cr_sortedSetK (w : World) (h2 : X.w = w := by rfl) (hc : X.calm = true := by rfl) : CallR X (.builtin "sorted") (rSortedSet w) := by subst h2; exact cr_sortedSet hc
theorem cr_sortedK (h : X.K = K := by rfl) : CallR X (.builtin "sorted") (rSorted K) := by subst h; exact cr_sorted
theorem cr_anyK (h : X.K = K := by rfl) (hc : X.calm = true := by rfl) : CallR X (.builtin "any") (rAny K) := by subst h; exact cr_any hc
theorem cr_sumK (h : X.K = K := by rfl) (hc : X.calm = true := by rfl) : CallR X (.builtin "sum") (rSum K) := by subst h; exact cr_sum hc
theorem call_isiK' (h : X.K = K := by rfl) : CallR X (.builtin "isinstance") (rIsi K) := by subst h; exact call_isi
theorem op_eqDK (hu : X.A.units + 64 < cLine) (h : X.K = K := by rfl) : OpR X (compareOp .Eq) (rEqD K) := by subst h; exact op_eqD hu
theorem op_neDK (hu : X.A.units + 64 < cLine) (h : X.K = K := by rfl) : OpR X (compareOp .NotEq) (rNeD K) := by subst h; exact op_neD hu
theorem sl_listK (h : X.K = K := by rfl) : SlR X (rSlL K) := by subst h; exact sl_list
theorem call_reprDK (hu : X.A.units + 64 < cLine) (hg : X.A.guards = some []) (h : X.K = K := by rfl) : CallR X (.builtin "repr") (rRepr K) := by subst h; exact call_reprD hu hg
theorem pi_listK {tg l : Expr} {tl : TE} (hl : PE X l tl) (h : X.K = K := by rfl) : PI X tg l (iList K tl) := by subst h; exact pi_list hl
theorem pi_tupK {tg l : Expr} {tl : TE} (hl : PE X l tl) (h : X.K = K := by rfl) : PI X tg l (iTup K tl) := by subst h; exact pi_tup hl
theorem pg_tupK {es : List Expr} {k : Nat} {t : TGs} {n : Nat} {pos : Pos} (hc : X.calm = true) (hh : PGs X es t) (h : X.K = K := by rfl) (hn : (assignEach es X.env).length = n := by rfl) (hst : (assignEach es X.env).findIdx? (·.1) = none := by rfl) :
    PG X (.Tuple es k pos) (gTup K n t) := by subst h; exact pg_tup hc hh hn hst
theorem pe_bmK {T id : String} {name : Str} {o e : Expr} {es : List Expr} {to : TE} {t : TA} {r : V → List V → Hp → VK → Prop} {apos cpos : Pos} (pa : PlainAttrs T) (slot : Slot T name id) (hty : typeOf (.builtin id) = pure (.type "method_descriptor")) (hm : MtR X id r) (ho : PE X o to) (ha : PA X (e :: es) t)
    (h : X.K = K := by rfl) (hbase : attributeBase o name X.env (eval o X.env) = eval o X.env := by rfl)
    (hfew : ((backTo cpos (starEach (e :: es) X.env)).all (fun x => !x.1) && (backToKw cpos (keywordEach [] X.env)).all (fun x => x.1.isSome)
      && decide ((e :: es).length + ([] : List Keyword).length + (if ([] : List Keyword).isEmpty then 0 else 1) < 30)) = true := by rfl)
    (hline : (apos.endLine == cpos.line) = true := by rfl) (hs : starEach (e :: es) X.env = (false, eval e X.env) :: starEach es X.env := by rfl) (hplain : (backTo cpos (starEach es X.env)).any (·.1) = false := by rfl) :
    PE X (.Call (.Attribute o name apos) (e :: es) [] cpos) (tBM K T r to t) := by subst h; exact pe_bm pa slot hty hm ho ha hbase hfew hline hs hplain
end
end Nv
set_option Elab.async false
set_option linter.all false
set_option maxRecDepth 100000
namespace Nv
open PySem PySem.Spec PyProof.Rows L2
open AutoSeq1 (wpAny_loadPart')
/-! ### enumerate(t), t a tuple -/
abbrev tupIt (t : Addr) : Obj := { cls := .type "tuple_iterator", data := .fields #[.ref t, .int 0 0] }
abbrev enumOb (i : Addr) : Obj := { cls := .type "enumerate", data := .fields #[.none, .bool false, .ref i, rawInt 0, .none, .none] }
theorem new_enumT (t : Addr) (xs : Array Value) (n : Nat) (dct : Option Addr) (sl : Array (Option Value)) :
    Meets (Builtin.«enumerate.__new__» ⟨[.type "enumerate", .ref t], []⟩) (fun _ R s => s.heap.get? t = some { cls := .type "tuple", dict := dct, data := .seq xs n, slots := sl } ∧
      R (.ok (.ret (.ref (s.heap.push (tupIt t)).objs.size))) { s with heap := (s.heap.push (tupIt t)).push (enumOb s.heap.objs.size) }) :=
  .of_wp fun prog w A R s h => by
    obtain ⟨hp, g, d, tk, os⟩ := s
    obtain ⟨ht, h⟩ := h
    have sub := sub_enumerate
    have hT : Heap.IsTuple (Shared.heap ⟨hp, g, d, tk, os⟩) t xs := ⟨_, ht, rfl, n, rfl⟩
    wp_walk using wpAny_loadPart' ht
    refine wpAny_stack_any fun st => wpAny_pure ?_
    split
    · rename_i c _ _ _ _ _
      cases (c == Value.type "enumerate")
      · wp_walk using wpAny_loadPart' ht, wpAny_pyIter_tuple hT
        exact ⟨_, rfl, h⟩
      · wp_walk using wpAny_loadPart' ht, wpAny_pyIter_tuple hT
        exact ⟨_, rfl, h⟩
    · wp_walk using wpAny_loadPart' ht, wpAny_pyIter_tuple hT
      exact ⟨_, rfl, h⟩
section
variable {prog : Program} {w : World} {A : Around} {E : Value → Shared → Prop} {s : Shared}
theorem call_enumT {t : Addr} {xs : Array Value} {Q : Value → Shared → Prop} (hT : s.heap.IsTuple t xs)
    (k : ∀ g, IsEnum g (s.heap.objs.size + 1) s.heap.objs.size 0 .none → g.IsTupleIter s.heap.objs.size t 0 → (∀ b o, s.heap.get? b = some o → g.get? b = some o) → Q (.ref (s.heap.objs.size + 1)) { s with heap := g }) :
    wpAny (model prog w) A (call (.type "enumerate") [.ref t]) Q E s := by
  obtain ⟨⟨c, dct, dt, sl⟩, ht, hc, n, hd⟩ := hT
  have hc2 : c = .type "tuple" := hc
  have hd2 : dt = .seq xs n := hd
  subst hc2 hd2
  refine callType_new F.called_enumerate (by decide) (F.typeCall_enumerate_1 _) (F.newCall_enumerate_1 _) (fun obj => F.args_object_init_2 obj _) F.entry_enumerate_new (new_enumT t xs n dct sl) ⟨ht, ?_⟩
  have sz : (s.heap.push (tupIt t)).objs.size = s.heap.objs.size + 1 := Heap.size_push ..
  have he := Heap.get?_push_size (s.heap.push (tupIt t)) (o := enumOb s.heap.objs.size) rfl
  rw [sz] at he
  show _ ∧ _
  rw [sz]
  exact ⟨⟨_, he, rfl⟩, k _ he ⟨_, Heap.get?_push_of_some _ (Heap.get?_push_size _ rfl), rfl, rfl⟩ fun b o x => Heap.get?_push_of_some _ (Heap.get?_push_of_some _ x)⟩
end
/-- the tuple at a, each item in a new pair with its number -/
def IteT (K : PySem.W.Frag) (a : Addr) : It :=
  ⟨fun i H => ∃ (xs : List V) (x : V), SqT K H a xs ∧ xs[i]? = some x, fun i H v H' => ∃ T x, v = .ref T ∧ H T = none ∧ H' = upd H T (.tup [.int (i : Nat), x]) ∧ ∀ xs, SqT K H a xs → xs[i]? = some x, fun i H => ∃ xs : List V, SqT K H a xs ∧ xs.length = i⟩
theorem turn_enumT {P : Program} {w : World} {K : PySem.W.Frag} {elts : List Expr} {kk : Nat} {tpos : Pos} (a e it : Addr) :
    Turn P w K (.Tuple elts kk tpos) (IteT K a) [e, it] e (fun i h => (∃ old, IsEnum h e it ((i : Nat) : Int) old) ∧ h.IsTupleIter it a i ∧ e ≠ it) where
  mem := by simp
  obj := fun i h st b hb => by
    obtain ⟨⟨old, he⟩, ⟨o, ho, hc, hd⟩, _⟩ := st
    rcases List.mem_cons.mp hb with z | z
    · rw [z]; exact ⟨_, he, fun v q => nomatch q⟩
    · rw [List.mem_singleton.mp z]; exact ⟨o, ho, fun v q => by rw [hd] at q; cases q⟩
  keep := fun i h h' st k => let ⟨⟨old, he⟩, hi, hne⟩ := st; ⟨⟨old, k e (by simp) _ he⟩, hi.at fun o q => k it (by simp) o q, hne⟩
  item := by
    intro X hP hw hK hc i pins s σ H E I hf st hg
    subst hP hw hK
    obtain ⟨⟨old, he⟩, hit, hne⟩ := st
    obtain ⟨xs, x, hq, hx⟩ := hg
    obtain ⟨its, rv, p, hz⟩ := I.tuple hq
    obtain ⟨u, hu, ru⟩ := rv.get hx
    have hel : e < s.heap.objs.size := Heap.lt_size he
    have hil : it < s.heap.objs.size := by obtain ⟨_, q, _⟩ := hit; exact Heap.lt_size q
    have hIT : s.heap.IsTuple a its.toArray := p
    have hail : a ≠ it := fun z => by
      obtain ⟨o, q1, q2, _⟩ := hit
      obtain ⟨o', q3, q4, _⟩ := hIT
      rw [z, q1] at q3
      cases q3
      rw [q2] at q4
      exact absurd q4 (by decide)
    have hae : e ∉ [it, a] := fun z => by
      rcases List.mem_cons.mp z with z | z
      · exact hne z
      · have z := List.mem_singleton.mp z
        obtain ⟨o', q3, q4, _⟩ := hIT
        have he' : s.heap.get? e = some _ := he
        rw [z, q3] at he'
        cases he'
        exact absurd q4 (show ¬ Value.type "enumerate" = Value.type "tuple" by decide)
    have D := Draws.tuple (prog := X.prog) (w := X.w) (A := X.A.in1) (I.ok.hd hc) it a hail its.toArray
    have hil2 : i < its.toArray.size := by
      have := (List.getElem?_eq_some_iff.mp hu).1
      simpa using this
    refine wpAny_pyNext_enum_itemD D he ⟨hit, hIT⟩ hil2 hne hae fun y g tk hy ho hst hT hsz hk => ?_
    have hyu : y = u := by
      have : its.toArray[i]? = some u := by simpa using hu
      rw [this] at hy
      exact (Option.some.inj hy).symm
    subst hyu
    refine ⟨_, rfl, wpAny_letOwnedTupleGo_enum (s := { s with heap := g, toks := tk + 1 }) ho fun g2 he' sb => ?_⟩
    have hT2 : g2.get? s.heap.objs.size = some { cls := .type "tuple", data := .seq #[.int i tk, y] } := (sb.2 _ (Nat.ne_of_gt hel)).trans hT
    have new : ObjOk X.prog X.w (upd H s.heap.objs.size (.tup [.int (i : Nat), x])) g2 s.heap.objs.size (.tup [.int (i : Nat), x]) :=
      ⟨by show 2 ≤ sizeLine; decide, [.int i tk, y], .cons ⟨_, rfl⟩ (.cons ru .nil), ⟨_, hT2, rfl, _, rfl⟩⟩
    have I1 : Inv X pins σ (upd H s.heap.objs.size (.tup [.int (i : Nat), x])) { s with heap := g2, toks := tk + 1 } :=
      I.turnedNew (ch := [e, it]) (fun b ob hb q => (sb.2 b (fun z => hb (by simp [z]))).trans (hk b ob (fun z => hb (by simp [z])) (fun z => hb (by simp [z])) q)) hf (Nat.le_refl _) new
    refine ⟨.ref s.heap.objs.size, _, I1, rfl, ⟨_, x, rfl, I.hok.fresh (Nat.le_refl _), rfl, fun ys hy => by rw [I.tuple_inj hy hq]; exact hx⟩, ⟨⟨y, ?_⟩, hst.1.at fun o q => (sb.2 it (Ne.symm hne)).trans q, hne⟩, fun b hb => ?_⟩
    · have e1 : ((i + 1 : Nat) : Int) = (i : Int) + 1 := by omega
      rw [e1]
      exact he'
    · have hb' : b < s.heap.objs.size := by
        rcases List.mem_cons.mp hb with z | z
        · rw [z]; exact hel
        · rw [List.mem_singleton.mp z]; exact hil
      rw [upd_ne (Nat.ne_of_lt hb')]
      exact (hf b hb).1
  done := by
    intro X hP hw hK hc i pins s σ H E I hf st hg
    subst hP hw hK
    obtain ⟨⟨old, he⟩, hit, hne⟩ := st
    obtain ⟨xs, hq, hx⟩ := hg
    obtain ⟨its, rv, p, hz⟩ := I.tuple hq
    have hIT : s.heap.IsTuple a its.toArray := p
    have hail : a ≠ it := fun z => by
      obtain ⟨o, q1, q2, _⟩ := hit
      obtain ⟨o', q3, q4, _⟩ := hIT
      rw [z, q1] at q3
      cases q3
      rw [q2] at q4
      exact absurd q4 (by decide)
    obtain ⟨f0, f1, f2, f3, f4, f5⟩ := hf it (by simp)
    have hl := rv.length
    have D := Draws.tuple (prog := X.prog) (w := X.w) (A := X.A.in1) (I.ok.hd hc) it a hail its.toArray
    have ei : i = its.toArray.size := by simp; omega
    rw [ei] at hit
    exact wpAny_pyNext_enum_endD D he ⟨hit, hIT⟩ fun g eb => ⟨rfl, I.turned (t' := s.toks) (fun b o hb q => eb b o hb q) f0 f1 f3 f4 f5⟩
  self := fun A i s Q E st h => let ⟨⟨_, he⟩, _⟩ := st; wpAny_pyIter_enum he h
def iEnumT (K : PySem.W.Frag) (ta : TA) : TI := fun σ H R => ta σ H fun vs H1 => ∃ a xs, vs = [.ref a] ∧ SqT K H1 a xs ∧ R (IteT K a) H1
theorem pi_enumT {X : Cx} {e : Expr} {ta : TA} {p pos tpos : Pos} {elts : List Expr} {kk : Nat} (hg : Gl X "enumerate") (hm : X.mg "enumerate" = none) (ha : PA X [e] ta) (hs : starEach [e] X.env = [(false, eval e X.env)] := by rfl) :
    PI X (.Tuple elts kk tpos) (.Call (.Name "enumerate" p) [e] [] pos) (iEnumT X.K ta) := by
  refine ⟨fun pins s σ H R I h => Call_ (ld_blt I hg hm boot_enumerate (PyProof.Rows.callWith_type1 (thn (ha.run pos pins s σ H _ I h) fun us s1 ⟨vs, H1, I1, r1, q1⟩ => ?_) hs rfl))⟩
  obtain ⟨a, xs, rfl, hq, q⟩ := q1
  obtain ⟨u, rfl, rx⟩ := vals1 r1
  cases rx
  obtain ⟨its, rv, p', hz⟩ := I1.tuple hq
  refine call_enumT (xs := its.toArray) p' fun g he hit hk => wpAny_pyIter_enum he ?_
  have I2 : Inv X pins σ H1 { s1 with heap := g } := I1.kept (t' := s1.toks) hk
  refine ⟨s1.heap.objs.size + 1, [s1.heap.objs.size + 1, s1.heap.objs.size], _, _, H1, rfl, I2, turn_enumT a (s1.heap.objs.size + 1) s1.heap.objs.size, ⟨⟨.none, he⟩, hit, Nat.succ_ne_self _⟩, fun b hb => ?_, q⟩
  have hle : s1.heap.objs.size ≤ b := by
    rcases List.mem_cons.mp hb with z | z
    · rw [z]; exact Nat.le_add_right _ _
    · rw [List.mem_singleton.mp z]; exact Nat.le_refl _
  exact I1.fpOk hle (I1.hok.fresh hle)
theorem walk_enumT {K : PySem.W.Frag} {a : Addr} {xs : List V} : Walk (IteT K a) xs.length (fun H => SqT K H a xs) (YPair (fun i => some (.int (i : Nat))) (fun i => xs[i]?)) where
  goes := fun i H hi h => ⟨xs, xs[i], h, List.getElem?_eq_getElem hi⟩
  stops := fun H h => ⟨xs, h, rfl⟩
  yields := fun i H x H' _ h y => by
    obtain ⟨T, z, e1, e2, e3, e4⟩ := y
    exact ⟨T, .int (i : Nat), z, e1, e2, e3, rfl, e4 xs h⟩
end Nv
set_option Elab.async false
set_option linter.all false
set_option maxRecDepth 100000
namespace Nv
open PySem PySem.Spec PyProof.Rows L2
def topS (i : Nat) : Stmt := PySem.Challenge.pw_neverfour_k36_three_wires_and_knots.main.body.getD i (.Pass ⟨0, 0, 0, 0⟩)
abbrev s_whole : Stmt := topS 1
abbrev s_whole_within : Stmt := topS 2
abbrev s_tuple_within : Stmt := topS 3
abbrev s_first_rows : Stmt := topS 4
abbrev s_made_book : Stmt := topS 14
abbrev s_check_form : Stmt := topS 15
abbrev s_has_state_form : Stmt := topS 16
abbrev s_fork_states : Stmt := topS 18
abbrev s_led_to : Stmt := topS 19
abbrev s_reach : Stmt := topS 20
abbrev s_knots : Stmt := topS 22
abbrev s_ways_back : Stmt := topS 23
abbrev s_ring_states : Stmt := topS 24
abbrev s_forks_on_rings : Stmt := topS 25
abbrev s_made_window : Stmt := topS 27
abbrev s_check_number : Stmt := topS 28
abbrev s_lasting : Stmt := topS 29
abbrev s_leading_to : Stmt := topS 30
abbrev s_ranks_for : Stmt := topS 31
abbrev s_lasting_for : Stmt := topS 32
abbrev s_least_wires : Stmt := topS 35
abbrev s_from_window : Stmt := topS 36
abbrev s_least_for : Stmt := topS 37
abbrev s_least_free : Stmt := topS 38
abbrev s_ray_counts : Stmt := topS 39
abbrev s_law_pool : Stmt := topS 41
abbrev s_law_draw : Stmt := topS 42
abbrev s_law_pick : Stmt := topS 43
abbrev s_law_is_whole : Stmt := topS 44
abbrev s_law_book_meeting : Stmt := topS 45
abbrev s_law_book_messages : Stmt := topS 46
abbrev s_law_book_drawn : Stmt := topS 47
abbrev s_law_win_ends : Stmt := topS 48
abbrev s_law_win_back : Stmt := topS 49
abbrev s_law_win_knots : Stmt := topS 50
abbrev s_law_ways_back : Stmt := topS 51
abbrev s_law_ringed : Stmt := topS 52
abbrev s_law_right : Stmt := topS 53
abbrev s_law : Stmt := topS 54
structure DefAt (K : PySem.W.Frag) (mg : Str → Option Value) (name : Str) (st : Stmt) (ps : List Str) where
  f : Addr
  fd : FuncData
  F : Fun K name name st f fd
  g : mg name = some (.ref f)
  bd : ∀ us : List Value, us.length = ps.length → bindArgs fd ⟨us, []⟩ = pure (ps.zip us)
structure FunE (K : PySem.W.Frag) (x qual : Str) (st : Stmt) (dvs : List V) (f : Addr) (fd : FuncData) : Prop where
  d : FunD K x qual (defArgs st) (defBody st) (defScope st) dvs [] f fd
theorem FunE.kp {K : PySem.W.Frag} {x qual : Str} {st : Stmt} {dvs : List V} {f : Addr} {fd : FuncData} (F : FunE K x qual st dvs f fd) : PySem.W.keepIn K (.ref f) = true := F.d.kp
theorem FunE.ok {P : Program} {w : World} {K : PySem.W.Frag} {mg : Str → Option Value} {base : Heap} {x qual : Str} {st : Stmt} {dvs : List V} {f : Addr} {fd : FuncData} {N ps : List Str} {k : Nat} {sp : Sp} (F : FunE K x qual st dvs f fd) (S : FnScope N ps (defScope st)) (len : ∀ vs H Q E, sp vs H Q E → vs.length = ps.length)
    (hbody : ∀ (cdv : Value) (A : Around) (outer : List Env) (s : Shared) (H : Hp) (vs : List V) (Q : VK) (E : XK), Room k (A.deeper (envOfC qual (defScope st) s.heap.objs.size f cdv)) → sp vs H Q E →
      ∃ t, PSs (cxOf CX0 P w K mg base N qual (defScope st) f cdv A outer s H E).nox (defBody st) t ∧ t { nx := fun _ H' => Q .non H', rt := Q } (start N vs) H) : FnOk P w K mg base CX0 (k + 1) f fd ps sp :=
  F.d.ok S len fun cdv A outer s H vs Q E hr hsp => by
    obtain ⟨t, h, q⟩ := hbody cdv A outer s H vs Q E hr hsp
    exact ⟨t, h.nox, q⟩
structure DefAtD (K : PySem.W.Frag) (mg : Str → Option Value) (name : Str) (st : Stmt) (ps : List Str) (dvs : List V) where
  f : Addr
  fd : FuncData
  F : FunE K name name st dvs f fd
  g : mg name = some (.ref f)
  b : Binds K fd ps []
  bD : ∃ ds, Vals dvs ds ∧ Binds K fd ps ds
theorem DefAt.b {K : PySem.W.Frag} {mg : Str → Option Value} {n : Str} {st : Stmt} {ps : List Str} (D : DefAt K mg n st ps) : Binds K D.fd ps [] := .all D.bd
theorem DefAt.bind1 {K : PySem.W.Frag} {mg : Str → Option Value} {n x : Str} {st : Stmt} (D : DefAt K mg n st [x]) (s : Shared) (v : Value) : BindsTo s D.fd ⟨[v], []⟩ [(x, v)] := .of_eq (D.bd [v] rfl)
theorem Room.units0 {k : Nat} {A : Around} (hr : Room k A) : A.units + 1 < cLine := hu_of hr
structure Tx (K : PySem.W.Frag) (mg : Str → Option Value) where
  whole : DefAt K mg "whole" s_whole ["thing"]
  whole_within : DefAt K mg "whole_within" s_whole_within ["thing", "low", "high"]
  tuple_within : DefAt K mg "tuple_within" s_tuple_within ["thing", "low", "high"]
  first_rows : DefAtD K mg "first_rows" s_first_rows ["states", "start"] [.int 0]
  made_book : DefAt K mg "made_book" s_made_book ["thing"]
  check_form : DefAt K mg "check_form" s_check_form ["thing"]
  has_state_form : DefAt K mg "has_state_form" s_has_state_form ["thing", "many"]
  fork_states : DefAt K mg "fork_states" s_fork_states ["book"]
  led_to : DefAt K mg "led_to" s_led_to ["book", "state", "message", "many"]
  reach : DefAt K mg "reach" s_reach ["book", "state", "many"]
  knots : DefAt K mg "knots" s_knots ["book"]
  ways_back : DefAt K mg "ways_back" s_ways_back ["book", "state"]
  ring_states : DefAt K mg "ring_states" s_ring_states ["book"]
  forks_on_rings : DefAt K mg "forks_on_rings" s_forks_on_rings ["book"]
  made_window : DefAt K mg "made_window" s_made_window ["thing"]
  check_number : DefAt K mg "check_number" s_check_number ["window"]
  lasting : DefAt K mg "lasting" s_lasting ["book", "window"]
  leading_to : DefAt K mg "leading_to" s_leading_to ["book", "state", "window", "goals"]
  ranks_for : DefAt K mg "ranks_for" s_ranks_for ["book", "window"]
  lasting_for : DefAt K mg "lasting_for" s_lasting_for ["book", "window"]
  least_wires : DefAt K mg "least_wires" s_least_wires ["book", "window"]
  from_window : DefAt K mg "from_window" s_from_window ["book"]
  least_for : DefAt K mg "least_for" s_least_for ["book", "window"]
  least_free : DefAt K mg "least_free" s_least_free ["book"]
  ray_counts : DefAt K mg "ray_counts" s_ray_counts ["book"]
  law_pool : DefAt K mg "_law_pool" s_law_pool ["script"]
  law_draw : DefAt K mg "_law_draw" s_law_draw ["pool", "many"]
  law_pick : DefAt K mg "_law_pick" s_law_pick ["pool", "things"]
  law_is_whole : DefAt K mg "_law_is_whole" s_law_is_whole ["thing"]
  law_book_meeting : DefAt K mg "_law_book_meeting" s_law_book_meeting ["moves"]
  law_book_messages : DefAt K mg "_law_book_messages" s_law_book_messages ["pool", "count"]
  law_book_drawn : DefAt K mg "_law_book_drawn" s_law_book_drawn ["pool", "states", "most"]
  law_win_ends : DefAt K mg "_law_win_ends" s_law_win_ends ["book", "first", "many"]
  law_win_back : DefAt K mg "_law_win_back" s_law_win_back ["book"]
  law_win_knots : DefAt K mg "_law_win_knots" s_law_win_knots ["book"]
  law_ways_back : DefAt K mg "_law_ways_back" s_law_ways_back ["book", "state"]
  law_ringed : DefAt K mg "_law_ringed" s_law_ringed ["pool"]
  law_right : DefAt K mg "_law_right" s_law_right ["book"]
  law : DefAt K mg "law" s_law ["script"]
  n_isinstance : mg "isinstance" = none
  n_int : mg "int" = none
  n_bool : mg "bool" = none
  n_tuple : mg "tuple" = none
  n_len : mg "len" = none
  n_range : mg "range" = none
  n_dict : mg "dict" = none
  n_min : mg "min" = none
  n_sorted : mg "sorted" = none
  n_set : mg "set" = none
  n_any : mg "any" = none
  n_list : mg "list" = none
  n_sum : mg "sum" = none
  n_max : mg "max" = none
  n_enumerate : mg "enumerate" = none
  n_repr : mg "repr" = none
  c_MOST_STATES : ∃ t, mg "MOST_STATES" = some (.int 8 t)
  c_MOST_MESSAGES : ∃ t, mg "MOST_MESSAGES" = some (.int 5 t)
  c_GREATEST_MESSAGE : ∃ t, mg "GREATEST_MESSAGE" = some (.int 99 t)
  c_LAST_WINDOW : ∃ t, mg "LAST_WINDOW" = some (.int 9 t)
end Nv
set_option Elab.async false
set_option linter.all false
set_option maxRecDepth 100000
namespace Nv
open PySem PySem.Spec PyProof.Rows L2
/-! ### what stays -/
/-- all that was tracked is as it was, but for the addresses of L -/
def Ext (L : List Addr) (H H' : Hp) : Prop := ∀ b o, b ∉ L → H b = some o → H' b = some o
theorem Ext.refl {L : List Addr} {H : Hp} : Ext L H H := fun _ _ _ e => e
theorem Ext.trans {L : List Addr} {H H1 H2 : Hp} (a : Ext L H H1) (b : Ext L H1 H2) : Ext L H H2 := fun c o n e => b c o n (a c o n e)
theorem Ext.mono {L M : List Addr} {H H' : Hp} (a : Ext L H H') (s : ∀ x ∈ L, x ∈ M) : Ext M H H' := fun c o n e => a c o (fun z => n (s c z)) e
theorem Ext.weak {L : List Addr} {H H' : Hp} (a : Ext [] H H') : Ext L H H' := a.mono fun x z => nomatch z
theorem Ext.same {L : List Addr} {H H' : Hp} (a : Same H H') : Ext L H H' := fun c o _ e => a c o e
theorem Ext.toSame {H H' : Hp} (a : Ext [] H H') : Same H H' := fun c o e => a c o (by simp) e
theorem Ext.new {L : List Addr} {H : Hp} {p : Addr} {o : HO} (h : H p = none) : Ext L H (upd H p o) := fun b u _ e => by
  rw [upd_ne (ne_of_none e h)]
  exact e
theorem Ext.wr {L : List Addr} {H : Hp} {p : Addr} {o : HO} (h : p ∈ L) : Ext L H (upd H p o) := fun b u n e => by
  rw [upd_ne (fun z => n (by rw [z]; exact h))]
  exact e
theorem Ext.at {L : List Addr} {H H' : Hp} {p : Addr} {o : HO} (a : Ext L H H') (h : H p = some o) (n : p ∉ L) : H' p = some o := a p o n h
theorem Ext.free {H H' : Hp} {p : Addr} (a : Ext [] H H') (h : H' p = none) : H p = none := a.toSame.free h
/-- drop an address that was free -/
theorem Ext.drop {L : List Addr} {H H' : Hp} {p : Addr} (a : Ext (p :: L) H H') (h : H p = none) : Ext L H H' := fun b o n e => a b o (fun z => by
  rcases List.mem_cons.mp z with z | z
  · exact ne_of_none e h z
  · exact n z) e
theorem Ext.drop2 {L : List Addr} {H H1 H' : Hp} {p : Addr} (s : Ext [] H H1) (a : Ext (p :: L) H1 H') (h : H p = none) : Ext L H H' := Ext.drop ((s.weak).trans a) h
/-- at these addresses stand no tuples -/
def Lsts (L : List Addr) (H : Hp) : Prop := ∀ l ∈ L, ∃ o, H l = some o ∧ (∀ xs, o ≠ .tup xs) ∧ ∀ ob u, o ≠ .frz ob u
theorem Lsts.nil {H : Hp} : Lsts [] H := fun _ z => nomatch z
theorem Lsts.not {L : List Addr} {H : Hp} (l : Lsts L H) {a : Addr} {xs : List V} (h : H a = some (.tup xs)) : a ∉ L := fun z => by
  obtain ⟨o, e, n, _⟩ := l a z
  rw [h] at e
  exact n xs (Option.some.inj e).symm
theorem Lsts.notF {L : List Addr} {H : Hp} (l : Lsts L H) {a : Addr} {ob : Obj} {u : HO} (h : H a = some (.frz ob u)) : a ∉ L := fun z => by
  obtain ⟨o, e, _, n⟩ := l a z
  rw [h] at e
  exact n ob u (Option.some.inj e).symm
theorem Ext.tup {L : List Addr} {H H' : Hp} {K : PySem.W.Frag} {a : Addr} {xs : List V} (e : Ext L H H') (l : Lsts L H) (h : SqT K H a xs) : SqT K H' a xs := by
  rcases h with (h | ⟨o, h⟩) | h
  · exact .inl (.inl (e _ _ (l.not h) h))
  · exact .inl (.inr ⟨o, e _ _ (l.notF h) h⟩)
  · exact .inr h
theorem Ext.tz {L : List Addr} {H H' : Hp} {a : Addr} {xs : List V} (e : Ext L H H') (l : Lsts L H) (h : TupZ H a xs) : TupZ H' a xs := by
  obtain ⟨o, h, d⟩ := h
  exact ⟨o, e _ _ (l.notF h) h, d⟩
theorem Ext.frz {L : List Addr} {H H' : Hp} {K : PySem.W.Frag} {a : Addr} {xs : List V} (e : Ext L H H') (n : a ∉ L) (h : SqL K H a xs) : SqL K H' a xs := by
  rcases h with (h | ⟨o, h⟩) | h
  · exact .inl (.inl (e _ _ n h))
  · exact .inl (.inr ⟨o, e _ _ n h⟩)
  · exact .inr h
theorem two_lsts {p l : Addr} {H : Hp} {xs ys : List V} (h1 : H p = some (.lst xs)) (h2 : H l = some (.lst ys)) : Lsts [p, l] H := fun a z => by
  rcases List.mem_cons.mp z with z | z
  · exact ⟨.lst xs, by rw [z]; exact h1, fun _ q => (nomatch q), fun _ _ q => (nomatch q)⟩
  · exact ⟨.lst ys, by rw [List.mem_singleton.mp z]; exact h2, fun _ q => (nomatch q), fun _ _ q => (nomatch q)⟩
theorem one_lst {p : Addr} {H : Hp} {xs : List V} (h1 : H p = some (.lst xs)) : Lsts [p] H := fun a z => ⟨.lst xs, by rw [List.mem_singleton.mp z]; exact h1, fun _ q => (nomatch q), fun _ _ q => (nomatch q)⟩
theorem one_dk {p : Addr} {H : Hp} {xs : List (Key × V)} (h1 : H p = some (.dK xs)) : Lsts [p] H := fun a z => ⟨.dK xs, by rw [List.mem_singleton.mp z]; exact h1, fun _ q => (nomatch q), fun _ _ q => (nomatch q)⟩
theorem one_tbl {p : Addr} {H : Hp} {xs : Array Value} (h1 : H p = some (.tbl xs)) : Lsts [p] H := fun a z => ⟨.tbl xs, by rw [List.mem_singleton.mp z]; exact h1, fun _ q => (nomatch q), fun _ _ q => (nomatch q)⟩
/-! ### a word between an expression and what follows -/
def tMid (t : TE) : TE := fun σ H Q => ∃ M : VK, t σ H M ∧ ∀ v H', M v H' → Q v H'
theorem pe_mid {X : Cx} {e : Expr} {t : TE} (h : PE X e t) : PE X e (tMid t) := ⟨fun pins s σ H Q I ⟨M, h1, h2⟩ => thn (h.run pins s σ H M I h1) fun u s' ⟨v, H', I', r, m⟩ => ⟨v, H', I', r, h2 v H' m⟩⟩
def tMidT (t : TT) : TT := fun σ H Q => ∃ M : Bool → Hp → Prop, t σ H M ∧ ∀ v H', M v H' → Q v H'
theorem pt_mid {X : Cx} {e : Expr} {t : TT} (h : PT X e t) : PT X e (tMidT t) := ⟨fun pins s σ H Q I ⟨M, h1, h2⟩ => thn (h.run pins s σ H M I h1) fun u s' ⟨H', I', m⟩ => ⟨H', I', h2 _ H' m⟩⟩
/-! ### data: ints -/
theorem ints_lay : ∀ ns : List Int, PyData.canLayAll0 (ns.map PyData.int) = true
  | [] => rfl
  | n :: r => by simp [PyData.canLayAll0, PyData.canLay0, ints_lay r]
theorem ints_depth : ∀ ns : List Int, PyData.depthAll (ns.map PyData.int) = 0
  | [] => rfl
  | n :: r => by simp [PyData.depthAll, PyData.depth, ints_depth r]
theorem ints_show : ∀ ns : List Int, (∀ n ∈ ns, 0 ≤ n ∧ n < 1000) → PyData.showableAll (ns.map PyData.int) = true
  | [], _ => rfl
  | n :: r, h => by
    have h1 := h n (by simp)
    have h2 : n.natAbs.log2 < 1920 := Nat.lt_of_le_of_lt (Nat.log2_le_self _) (by omega)
    simp [PyData.showableAll, PyData.showable, ints_show r fun m hm => h m (by simp [hm]), h2]
theorem ints_nodict : ∀ ns : List Int, PyData.hasDictAll (ns.map PyData.int) = false
  | [] => rfl
  | n :: r => by simp [PyData.hasDictAll, PyData.hasDict, ints_nodict r]
theorem ints_eqv : ∀ ns ms : List Int, PyData.eqvAll (ns.map PyData.int) (ms.map PyData.int) = decide (ns = ms)
  | [], [] => by simp [PyData.eqvAll]
  | [], m :: q => by simp [PyData.eqvAll]
  | n :: r, [] => by simp [PyData.eqvAll]
  | n :: r, m :: q => by
    simp only [List.map_cons, PyData.eqvAll, PyData.eqv, ints_eqv r q, List.cons.injEq]
    by_cases h : n = m <;> simp [h]
theorem dp_ints {K : PySem.W.Frag} {H : Hp} : ∀ (ns : List Int), DpAll K H (ns.map V.int) (ns.map PyData.int)
  | [] => .nil
  | n :: r => .cons (.int n) (dp_ints r)
theorem shaped_ints (ns : List Int) : SeqAt.shaped (.list (ns.map PyData.int)) = true := by simp [SeqAt.shaped, PyData.canLay0, ints_lay, PyData.depth, ints_depth]
theorem shaped_intsT (ns : List Int) : SeqAt.shaped (.tuple (ns.map PyData.int)) = true := by simp [SeqAt.shaped, PyData.canLay0, ints_lay, PyData.depth, ints_depth]
theorem eqv_nil {ns : List Int} : PyData.eqv (.list (ns.map PyData.int)) (.list []) = decide (ns = []) := by
  have h := ints_eqv ns []
  simpa [PyData.eqv] using h
/-! ### books -/
abbrev State := List (Nat × Nat)
abbrev Book := List State
def MvV (K : PySem.W.Frag) (H : Hp) (p : Addr) (m : Nat × Nat) : Prop := SqT K H p [.int m.1, .int m.2]
def StV (K : PySem.W.Frag) (H : Hp) (v : V) (s : State) : Prop := ∃ (a : Addr) (ps : List Addr), v = .ref a ∧ TupZ H a (ps.map V.ref) ∧ Paired (MvV K H) ps s
def BkV (K : PySem.W.Frag) (H : Hp) (v : V) (b : Book) : Prop := ∃ (a : Addr) (vs : List V), v = .ref a ∧ SqT K H a vs ∧ Paired (StV K H) vs b
theorem Paired.imp {α β : Type} {F G : α → β → Prop} : ∀ {l₁ : List α} {l₂ : List β}, Paired F l₁ l₂ → (∀ a b, F a b → G a b) → Paired G l₁ l₂
  | _, _, .nil, _ => .nil
  | _, _, .cons r t, f => .cons (f _ _ r) (Paired.imp t f)
theorem Paired.get {α β : Type} {F : α → β → Prop} : ∀ {l₁ : List α} {l₂ : List β} {i : Nat} {b : β}, Paired F l₁ l₂ → l₂[i]? = some b → ∃ a, l₁[i]? = some a ∧ F a b
  | _, _, _, _, .nil, e => by simp at e
  | _, _, 0, _, .cons r _, e => by cases e; exact ⟨_, rfl, r⟩
  | _, _, i + 1, _, .cons _ t, e => by
    obtain ⟨a, e1, e2⟩ := Paired.get (i := i) t (by simpa using e)
    exact ⟨a, by simpa using e1, e2⟩
theorem Paired.get' {α β : Type} {F : α → β → Prop} : ∀ {l₁ : List α} {l₂ : List β} {i : Nat} {a : α}, Paired F l₁ l₂ → l₁[i]? = some a → ∃ b, l₂[i]? = some b ∧ F a b
  | _, _, _, _, .nil, e => by simp at e
  | _, _, 0, _, .cons r _, e => by cases e; exact ⟨_, rfl, r⟩
  | _, _, i + 1, _, .cons _ t, e => by
    obtain ⟨a, e1, e2⟩ := Paired.get' (i := i) t (by simpa using e)
    exact ⟨a, by simpa using e1, e2⟩
theorem Paired.len {α β : Type} {F : α → β → Prop} : ∀ {l₁ : List α} {l₂ : List β}, Paired F l₁ l₂ → l₁.length = l₂.length
  | _, _, .nil => rfl
  | _, _, .cons _ t => by rw [List.length_cons, List.length_cons, Paired.len t]
theorem Paired.snoc {α β : Type} {F : α → β → Prop} {a : α} {b : β} (h : F a b) : ∀ {l₁ : List α} {l₂ : List β}, Paired F l₁ l₂ → Paired F (l₁ ++ [a]) (l₂ ++ [b])
  | _, _, .nil => .cons h .nil
  | _, _, .cons r t => .cons r (Paired.snoc h t)
theorem StV.ext {L : List Addr} {H H' : Hp} {K : PySem.W.Frag} {v : V} {s : State} (e : Ext L H H') (l : Lsts L H) (h : StV K H v s) : StV K H' v s := by
  obtain ⟨a, ps, rfl, h1, h2⟩ := h
  exact ⟨a, ps, rfl, e.tz l h1, Paired.imp h2 fun _ _ q => e.tup l q⟩
theorem BkV.ext {L : List Addr} {H H' : Hp} {K : PySem.W.Frag} {v : V} {b : Book} (e : Ext L H H') (l : Lsts L H) (h : BkV K H v b) : BkV K H' v b := by
  obtain ⟨a, vs, rfl, h1, h2⟩ := h
  exact ⟨a, vs, rfl, e.tup l h1, Paired.imp h2 fun _ _ q => q.ext e l⟩
theorem BkV.ext0 {H H' : Hp} {K : PySem.W.Frag} {v : V} {b : Book} (h : BkV K H v b) (e : Ext [] H H') : BkV K H' v b := h.ext e Lsts.nil
theorem StV.ext0 {H H' : Hp} {K : PySem.W.Frag} {v : V} {s : State} (h : StV K H v s) (e : Ext [] H H') : StV K H' v s := h.ext e Lsts.nil
/-- values -/
theorem atN {xs : List V} {i : Nat} {v : V} (h : xs[i]? = some v) : atI xs (i : Int) = some v := atI_nat h
abbrev nV (n : Nat) : V := .int (n : Int)
theorem map_at {α : Type} {f : α → V} {xs : List α} {i : Nat} {y : V} (h : (xs.map f)[i]? = some y) : ∃ x, xs[i]? = some x ∧ y = f x := by
  rw [List.getElem?_map] at h
  cases e : xs[i]? with
  | none => rw [e] at h; cases h
  | some x => rw [e] at h; exact ⟨x, rfl, (Option.some.inj h).symm⟩
theorem at_map {α : Type} {f : α → V} {xs : List α} {i : Nat} {x : α} (h : xs[i]? = some x) : (xs.map f)[i]? = some (f x) := by rw [List.getElem?_map, h]; rfl
theorem dec_int {a b : Int} : decide (V.int a = V.int b) = decide (a = b) := by
  by_cases h : a = b
  · subst h; simp
  · rw [decide_eq_false h, decide_eq_false fun e => h (V.int.inj e)]
theorem ifB {b : Bool} {A B : Prop} (h1 : b = true → A) (h2 : b = false → B) : if b = true then A else B := by
  cases b
  · exact iteF (h2 rfl)
  · exact iteT (h1 rfl)
theorem flat_nV (F : List Nat) : (F.map nV).all flatV = true := by
  rw [List.all_eq_true]
  intro v hv
  obtain ⟨n, _, rfl⟩ := List.mem_map.mp hv
  rfl
theorem eqV_nV (a b : Nat) : eqV (nV a) (nV b) = decide (a = b) := by
  unfold nV eqV
  by_cases h : a = b
  · subst h; simp
  · have h2 : ¬ ((a : Int) = (b : Int)) := fun e => h (by omega)
    simp [h, h2]
theorem inV_nV (t : Nat) (F : List Nat) : inV (nV t) (F.map nV) = decide (t ∈ F) := by
  unfold inV
  rw [List.any_map]
  by_cases h : t ∈ F
  · rw [decide_eq_true h, List.any_eq_true]
    exact ⟨t, h, by simp [eqV_nV]⟩
  · rw [decide_eq_false h, List.any_eq_false]
    intro x hx
    simp only [Function.comp, eqV_nV, decide_eq_true_eq]
    exact fun e => h (e ▸ hx)
/-- lists of moves that are not closed yet -/
def LsV (K : PySem.W.Frag) (H : Hp) (v : V) (s : State) : Prop := ∃ (a : Addr) (ps : List Addr), v = .ref a ∧ H a = some (.lst (ps.map V.ref)) ∧ Paired (MvV K H) ps s
def LbV (K : PySem.W.Frag) (H : Hp) (v : V) (b : Book) : Prop := ∃ (a : Addr) (vs : List V), v = .ref a ∧ H a = some (.lst vs) ∧ Paired (LsV K H) vs b
theorem LsV.ext0 {H H' : Hp} {K : PySem.W.Frag} {v : V} {s : State} (h : LsV K H v s) (e : Ext [] H H') : LsV K H' v s := by
  obtain ⟨a, ps, rfl, h1, h2⟩ := h
  exact ⟨a, ps, rfl, e.at h1 (by simp), Paired.imp h2 fun _ _ q => e.tup Lsts.nil q⟩
theorem LbV.ext0 {H H' : Hp} {K : PySem.W.Frag} {v : V} {b : Book} (h : LbV K H v b) (e : Ext [] H H') : LbV K H' v b := by
  obtain ⟨a, ps, rfl, h1, h2⟩ := h
  exact ⟨a, ps, rfl, e.at h1 (by simp), Paired.imp h2 fun _ _ q => q.ext0 e⟩
theorem MvV.ext0 {H H' : Hp} {K : PySem.W.Frag} {p : Addr} {m : Nat × Nat} (h : MvV K H p m) (e : Ext [] H H') : MvV K H' p m := e.tup Lsts.nil h
/-- a list that was made behind H may be written -/
theorem Ext.put {H H' : Hp} {p : Addr} {o : HO} (e : Ext [] H H') (h : H p = none) : Ext [] H (upd H' p o) := Ext.drop (e.weak.trans (.wr (by simp))) h
theorem Ext.put' {L : List Addr} {H H' : Hp} {p : Addr} {o : HO} (e : Ext L H H') (h : H p = none) : Ext L H (upd H' p o) := Ext.drop ((e.mono fun x z => List.mem_cons_of_mem _ z).trans (.wr (by simp))) h
theorem Ext.put2 {L : List Addr} {H H' : Hp} {p : Addr} {o : HO} (e : Ext L H H') (h : H' p = none) : Ext L H (upd H' p o) := e.trans (.new h)
theorem StV.put {H : Hp} {K : PySem.W.Frag} {v : V} {s : State} {p : Addr} {xs ys : List V} (h : StV K H v s) (hp : H p = some (.lst xs)) : StV K (upd H p (.lst ys)) v s := h.ext (L := [p]) (.wr (by simp)) (one_lst hp)
theorem MvV.put {H : Hp} {K : PySem.W.Frag} {q : Addr} {m : Nat × Nat} {p : Addr} {xs ys : List V} (h : MvV K H q m) (hp : H p = some (.lst xs)) : MvV K (upd H p (.lst ys)) q m := Ext.tup (L := [p]) (.wr (by simp)) (one_lst hp) h
theorem yes {σ : L2.St} {H : Hp} {A B : Hp → Prop} (h : A H) : tYes σ H (fun b H3 => if b = true then A H3 else B H3) := by
  show if true = true then A H else B H
  exact iteT h
theorem Ext.free2 {L : List Addr} {H H' : Hp} {x : Addr} (e : Ext L H H') (h : H' x = none) (n : x ∉ L) : H x = none := by
  cases q : H x with
  | none => rfl
  | some o =>
    rw [e x o n q] at h
    cases h
theorem eraseIdx_nV {α β : Type} (f : α → β) : ∀ (L : List α) (k : Nat), (L.map f).eraseIdx k = (L.eraseIdx k).map f
  | [], _ => rfl
  | _ :: _, 0 => rfl
  | a :: r, k + 1 => by simp [eraseIdx_nV f r k]
theorem off2 {p l x : Addr} (a : x ≠ p) (b : x ≠ l) : x ∉ [p, l] := fun z => by
  rcases List.mem_cons.mp z with z | z
  · exact a z
  · exact b (List.mem_singleton.mp z)
/-- such a list, not at one of these addresses -/
def LsN (K : PySem.W.Frag) (H : Hp) (X : List Addr) (v : V) (s : State) : Prop := ∃ (a : Addr) (ps : List Addr), v = .ref a ∧ a ∉ X ∧ H a = some (.lst (ps.map V.ref)) ∧ Paired (MvV K H) ps s
theorem LsN.ls {K : PySem.W.Frag} {H : Hp} {X : List Addr} {v : V} {s : State} (h : LsN K H X v s) : LsV K H v s := by
  obtain ⟨a, ps, e, _, h1, h2⟩ := h
  exact ⟨a, ps, e, h1, h2⟩
theorem LsN.ext {K : PySem.W.Frag} {H H' : Hp} {X Y : List Addr} {v : V} {s : State} (h : LsN K H X v s) (e : Ext Y H H') (yx : ∀ y ∈ Y, y ∈ X) (l : Lsts Y H) : LsN K H' X v s := by
  obtain ⟨a, ps, ea, n, h1, h2⟩ := h
  exact ⟨a, ps, ea, n, e _ _ (fun z => n (yx a z)) h1, Paired.imp h2 fun _ _ q => e.tup l q⟩
def mvD (q : Nat × Nat) : PyData := .tuple [.int (q.1 : Int), .int (q.2 : Int)]
theorem dp_mvs {K : PySem.W.Frag} {H : Hp} : ∀ {ps : List Addr} {s : State}, Paired (MvV K H) ps s → DpAll K H (ps.map V.ref) (s.map mvD)
  | _, _, .nil => .nil
  | _, _, .cons r t => .cons (.tup r (.cons (.int _) (.cons (.int _) .nil))) (dp_mvs t)
theorem mvs_lay : ∀ s : State, PyData.canLayAll0 (s.map mvD) = true
  | [] => rfl
  | q :: r => by simp [PyData.canLayAll0, PyData.canLay0, mvs_lay r, mvD]
theorem mvs_depth : ∀ s : State, PyData.depthAll (s.map mvD) ≤ 1
  | [] => by simp [PyData.depthAll]
  | q :: r => by
    have := mvs_depth r
    simp [PyData.depthAll, PyData.depth, mvD]
    omega
theorem shaped_mvs (s : State) : SeqAt.shaped (.list (s.map mvD)) = true := by
  have := mvs_depth s
  simp [SeqAt.shaped, PyData.canLay0, mvs_lay, PyData.depth]
  omega
theorem eqv_mvs_nil (s : State) : PyData.eqv (.list (s.map mvD)) (.list []) = decide (s = []) := by
  cases s <;> simp [PyData.eqv, PyData.eqvAll]
theorem ixNat {k n : Nat} (h : k < n) : ixN n (k : Int) = some k := by
  unfold ixN
  rw [if_pos (by omega), if_pos (by omega)]
  simp
theorem Paired.set {α β : Type} {F : α → β → Prop} {a : α} {b : β} (h : F a b) : ∀ {l₁ : List α} {l₂ : List β} (k : Nat), Paired F l₁ l₂ → Paired F (l₁.set k a) (l₂.set k b)
  | _, _, _, .nil => .nil
  | _, _, 0, .cons _ t => .cons h t
  | _, _, k + 1, .cons r t => .cons r (Paired.set h k t)
/-- the keys of a dict -/
abbrev kN (n : Nat) : Key := Sum.inl (n : Int)
theorem valV_key {kvs : List (Key × V)} {F : List Nat} (h : kvs.map (·.1) = F.map kN) (n : Nat) : (valV kvs (kN n)).isSome = decide (n ∈ F) := by
  rw [← valV_any]
  have e : (kvs.any fun kv => decide (kv.1 = kN n)) = ((kvs.map (·.1)).any fun k => decide (k = kN n)) := by rw [List.any_map]; rfl
  rw [e, h, List.any_map]
  by_cases m : n ∈ F
  · rw [decide_eq_true m, List.any_eq_true]
    exact ⟨n, m, by simp⟩
  · rw [decide_eq_false m, List.any_eq_false]
    intro x hx
    simp only [Function.comp, decide_eq_true_eq]
    intro e
    have e2 : (x : Int) = (n : Int) := Sum.inl.inj e
    exact m (by rw [show n = x by omega]; exact hx)
theorem valV_mem {kvs : List (Key × V)} {k : Key} {v : V} (h : valV kvs k = some v) : (k, v) ∈ kvs := by
  unfold valV at h
  cases e : kvs.find? (fun kv => decide (kv.1 = k)) with
  | none => rw [e] at h; cases h
  | some p =>
    rw [e] at h
    cases h
    have h1 := List.mem_of_find?_eq_some e
    have h2 := List.find?_some e
    simp at h2
    rw [← h2]
    exact h1
/-! ### books whose states are any tuples -/
def StW (K : PySem.W.Frag) (H : Hp) (v : V) (s : State) : Prop := ∃ (a : Addr) (ps : List Addr), v = .ref a ∧ SqT K H a (ps.map V.ref) ∧ Paired (MvV K H) ps s
def BkW (K : PySem.W.Frag) (H : Hp) (v : V) (b : Book) : Prop := ∃ (a : Addr) (vs : List V), v = .ref a ∧ SqT K H a vs ∧ Paired (StW K H) vs b
theorem BkV.wk {K : PySem.W.Frag} {H : Hp} {v : V} {b : Book} (h : BkV K H v b) : BkW K H v b := by
  obtain ⟨a, vs, rfl, h1, h2⟩ := h
  exact ⟨a, vs, rfl, h1, Paired.imp h2 fun _ _ z => by obtain ⟨c, ps, rfl, h3, h4⟩ := z; exact ⟨c, ps, rfl, h3.sq, h4⟩⟩
theorem BkW.ext {L : List Addr} {H H' : Hp} {K : PySem.W.Frag} {v : V} {b : Book} (e : Ext L H H') (l : Lsts L H) (h : BkW K H v b) : BkW K H' v b := by
  obtain ⟨a, vs, rfl, h1, h2⟩ := h
  exact ⟨a, vs, rfl, e.tup l h1, Paired.imp h2 fun _ _ z => by obtain ⟨c, ps, rfl, h3, h4⟩ := z; exact ⟨c, ps, rfl, e.tup l h3, Paired.imp h4 fun _ _ q => e.tup l q⟩⟩
theorem BkW.ext0 {H H' : Hp} {K : PySem.W.Frag} {v : V} {b : Book} (h : BkW K H v b) (e : Ext [] H H') : BkW K H' v b := h.ext e Lsts.nil
end Nv
set_option linter.all false
namespace Nv
/-! ### books: the mathematics -/
def mvs (b : Book) (s : Nat) : State := b.getD s []
inductive Rch (b : Book) : Nat → Prop
  | zero : Rch b 0
  | step {s : Nat} {p : Nat × Nat} : Rch b s → p ∈ mvs b s → Rch b p.2
/-- a state's form, of a book with n states -/
structure StOk (n : Nat) (s : State) : Prop where
  few : s.length ≤ 5
  rise : (s.map (·.1)).Pairwise (· < ·)
  msg : ∀ p ∈ s, p.1 ≤ 99
  to : ∀ p ∈ s, p.2 < n
/-- the form of a book -/
structure FormB (b : Book) : Prop where
  one : 1 ≤ b.length
  eight : b.length ≤ 8
  st : ∀ s ∈ b, StOk b.length s
structure OkB (b : Book) : Prop extends FormB b where
  reach : ∀ s, s < b.length → Rch b s
theorem mvs_of {b : Book} {s : Nat} {x : State} (h : b[s]? = some x) : mvs b s = x := by
  unfold mvs
  rw [List.getD_eq_getElem?_getD, h]
  rfl
theorem mvs_lt {b : Book} {s : Nat} (h : s < b.length) : b[s]? = some (mvs b s) := by
  rw [mvs_of (List.getElem?_eq_getElem h)]
  exact List.getElem?_eq_getElem h
theorem mvs_mem {b : Book} {s : Nat} (h : s < b.length) : mvs b s ∈ b := List.mem_of_getElem? (mvs_lt h)
theorem mvs_out {b : Book} {s : Nat} (h : b.length ≤ s) : mvs b s = [] := by
  unfold mvs
  rw [List.getD_eq_getElem?_getD, List.getElem?_eq_none h]
  rfl
theorem FormB.ok {b : Book} (h : FormB b) {s : Nat} (hs : s < b.length) : StOk b.length (mvs b s) := h.st _ (mvs_mem hs)
theorem FormB.to {b : Book} (h : FormB b) {s : Nat} {p : Nat × Nat} (hp : p ∈ mvs b s) : p.2 < b.length := by
  by_cases hs : s < b.length
  · exact (h.ok hs).to p hp
  · rw [mvs_out (by omega)] at hp
    cases hp
/-- what meeting finds: F the states in their order -/
structure Met (b : Book) (F : List Nat) : Prop where
  nd : F.Nodup
  zero : F[0]? = some 0
  lt : ∀ s ∈ F, s < b.length
  cl : ∀ s ∈ F, ∀ p ∈ mvs b s, p.2 ∈ F
  from_ : ∀ j s, F[j]? = some s → j ≠ 0 → ∃ i s', i < j ∧ F[i]? = some s' ∧ ∃ p ∈ mvs b s', p.2 = s
def rename (b : Book) (F : List Nat) : Book := F.map fun s => (mvs b s).map fun p => (p.1, F.idxOf p.2)
theorem rename_len {b : Book} {F : List Nat} : (rename b F).length = F.length := by simp [rename]
theorem rename_at {b : Book} {F : List Nat} {j s : Nat} (h : F[j]? = some s) : mvs (rename b F) j = (mvs b s).map fun p => (p.1, F.idxOf p.2) := by
  refine mvs_of ?_
  unfold rename
  rw [List.getElem?_map, h]
  rfl
theorem idx_of {F : List Nat} (nd : F.Nodup) {j s : Nat} (h : F[j]? = some s) : F.idxOf s = j := by
  obtain ⟨hj, e⟩ := List.getElem?_eq_some_iff.mp h
  rw [← e]
  exact List.Nodup.idxOf_getElem nd j hj
theorem nodup_le {n : Nat} {F : List Nat} (nd : F.Nodup) (lt : ∀ s ∈ F, s < n) : F.length ≤ n := by
  have h := (List.nodup_range (n := n))
  have : F ⊆ List.range n := fun s hs => List.mem_range.mpr (lt s hs)
  have := List.Nodup.length_le_of_subset nd this
  simpa using this
theorem Met.okB {b : Book} {F : List Nat} (m : Met b F) (h8 : b.length ≤ 8) (hs : ∀ s, s < b.length → (mvs b s).length ≤ 5 ∧ ((mvs b s).map (·.1)).Pairwise (· < ·) ∧ ∀ p ∈ mvs b s, p.1 ≤ 99) : OkB (rename b F) := by
  have h0 : 0 < F.length := (List.getElem?_eq_some_iff.mp m.zero).1
  have hle : F.length ≤ b.length := nodup_le m.nd m.lt
  refine { one := by rw [rename_len]; exact h0, eight := by rw [rename_len]; omega, st := fun x hx => ?_, reach := fun j hj => ?_ }
  · obtain ⟨s, hsF, rfl⟩ := List.mem_map.mp hx
    obtain ⟨a1, a2, a3⟩ := hs s (m.lt s hsF)
    refine ⟨by rw [List.length_map]; exact a1, ?_, fun p hp => ?_, fun p hp => ?_⟩
    · rw [List.map_map]
      exact a2
    · obtain ⟨q, hq, rfl⟩ := List.mem_map.mp hp
      exact a3 q hq
    · obtain ⟨q, hq, rfl⟩ := List.mem_map.mp hp
      rw [rename_len]
      exact List.idxOf_lt_length_of_mem (m.cl s hsF q hq)
  · rw [rename_len] at hj
    have key : ∀ n, ∀ j, j ≤ n → j < F.length → Rch (rename b F) j := by
      intro n
      induction n with
      | zero =>
        intro j h1 _
        have e : j = 0 := by omega
        rw [e]
        exact .zero
      | succ n ih =>
        intro j h1 h2
        by_cases e : j = 0
        · subst e; exact .zero
        · obtain ⟨i, s', hi, hs', p, hp, ep⟩ := m.from_ j F[j] (List.getElem?_eq_getElem h2) e
          have r := ih i (by omega) (by omega)
          have : (p.1, F.idxOf p.2) ∈ mvs (rename b F) i := by
            rw [rename_at hs']
            exact List.mem_map.mpr ⟨p, hp, rfl⟩
          have r2 := Rch.step r this
          have e2 : F.idxOf p.2 = j := idx_of m.nd (by rw [ep]; exact List.getElem?_eq_getElem h2)
          rw [e2] at r2
          exact r2
    exact key j j (Nat.le_refl _) hj
/-! ### meeting, step by step -/
structure MetI (b : Book) (F : List Nat) (i : Nat) : Prop where
  nd : F.Nodup
  zero : F[0]? = some 0
  lt : ∀ s ∈ F, s < b.length
  from_ : ∀ j s, F[j]? = some s → j ≠ 0 → ∃ i s', i < j ∧ F[i]? = some s' ∧ ∃ p ∈ mvs b s', p.2 = s
  le : i ≤ F.length
  cl : ∀ j s, j < i → F[j]? = some s → ∀ p ∈ mvs b s, p.2 ∈ F
structure MetW (b : Book) (F : List Nat) (i s k : Nat) : Prop extends MetI b F i where
  here : F[i]? = some s
  part : ∀ p ∈ (mvs b s).take k, p.2 ∈ F
theorem MetI.first {b : Book} (h : 1 ≤ b.length) : MetI b [0] 0 where
  nd := by simp
  zero := rfl
  lt := fun s hs => by simp at hs; omega
  from_ := fun j s h n => by
    have := (List.getElem?_eq_some_iff.mp h).1
    simp at this
    omega
  le := by simp
  cl := fun j s h => by omega
theorem MetI.begin {b : Book} {F : List Nat} {i s : Nat} (m : MetI b F i) (h : F[i]? = some s) : MetW b F i s 0 := { m with here := h, part := fun p hp => by simp at hp }
theorem MetW.skip {b : Book} {F : List Nat} {i s k : Nat} {p : Nat × Nat} (m : MetW b F i s k) (h : (mvs b s)[k]? = some p) (hp : p.2 ∈ F) : MetW b F i s (k + 1) := { m with
  part := fun q hq => by
    rw [List.take_add_one, h] at hq
    rcases List.mem_append.mp hq with hq | hq
    · exact m.part q hq
    · simp at hq
      rw [hq]
      exact hp }
theorem MetW.push {b : Book} {F : List Nat} {i s k : Nat} {p : Nat × Nat} (m : MetW b F i s k) (h : (mvs b s)[k]? = some p) (hp : p.2 ∉ F) (hb : p.2 < b.length) : MetW b (F ++ [p.2]) i s (k + 1) := by
  have old : ∀ {j x : Nat}, F[j]? = some x → (F ++ [p.2])[j]? = some x := fun {j x} e => by
    rw [List.getElem?_append_left (List.getElem?_eq_some_iff.mp e).1]
    exact e
  refine { nd := ?_, zero := old m.zero, lt := fun x hx => ?_, from_ := fun j x e n => ?_, le := ?_, cl := fun j x hj e q hq => ?_, here := old m.here, part := fun q hq => ?_ }
  · rw [List.nodup_append]
    refine ⟨m.nd, by simp, fun a ha c hc => ?_⟩
    simp at hc
    rw [hc]
    exact fun z => hp (z ▸ ha)
  · rcases List.mem_append.mp hx with hx | hx
    · exact m.lt x hx
    · simp at hx
      rw [hx]
      exact hb
  · by_cases hj : j < F.length
    · rw [List.getElem?_append_left hj] at e
      obtain ⟨i', s', h1, h2, h3⟩ := m.from_ j x e n
      exact ⟨i', s', h1, old h2, h3⟩
    · rw [List.getElem?_append_right (by omega)] at e
      have hz : j - F.length = 0 := by
        have := (List.getElem?_eq_some_iff.mp e).1
        simp at this
        omega
      rw [hz] at e
      cases e
      have hi := (List.getElem?_eq_some_iff.mp m.here).1
      exact ⟨i, s, by omega, old m.here, p, List.mem_of_getElem? h, rfl⟩
  · rw [List.length_append]
    have := m.le
    omega
  · have hjF : j < F.length := by
      have := m.le
      omega
    rw [List.getElem?_append_left hjF] at e
    exact List.mem_append_left _ (m.cl j x hj e q hq)
  · rw [List.take_add_one, h] at hq
    rcases List.mem_append.mp hq with hq | hq
    · exact List.mem_append_left _ (m.part q hq)
    · simp at hq
      rw [hq]
      simp
theorem MetW.done {b : Book} {F : List Nat} {i s k : Nat} (m : MetW b F i s k) (hk : (mvs b s).length ≤ k) : MetI b F (i + 1) := { m with
  le := (List.getElem?_eq_some_iff.mp m.here).1
  cl := fun j x hj e q hq => by
    by_cases hji : j < i
    · exact m.cl j x hji e q hq
    · have : j = i := by omega
      subst this
      rw [m.here] at e
      cases e
      exact m.part q (by rw [List.take_of_length_le hk]; exact hq) }
theorem MetI.met {b : Book} {F : List Nat} {i : Nat} (m : MetI b F i) (h : i = F.length ∨ i = b.length) : Met b F := { m with
  cl := fun s hs p hp => by
    obtain ⟨j, hj, e⟩ := List.mem_iff_getElem.mp hs
    have : F.length ≤ i := by
      rcases h with h | h
      · omega
      · rw [h]
        exact nodup_le m.nd m.lt
    exact m.cl j s (by omega) (by rw [List.getElem?_eq_getElem hj, e]) p hp }
end Nv
set_option Elab.async false
set_option linter.all false
set_option maxRecDepth 100000
namespace Nv
open PySem PySem.Spec PyProof.Rows L2
section
variable {P : Program} {w : World} {K : PySem.W.Frag} {mg : Str → Option Value} {base : Heap}
/-! ### numbers and tuples: the program's checks -/
theorem sc_whole : FnScope ["thing"] ["thing"] (defScope s_whole) := ⟨rfl, rfl, rfl, by decide +kernel, rfl, by decide +kernel, by decide +kernel⟩
def sp_whole : Sp := fun vs H Q _ => ∃ i : Int, vs = [.int i] ∧ Q (.bl true) H
theorem ok_whole (T : Tx K mg) : FnOk P w K mg base CX0 1 T.whole.f T.whole.fd ["thing"] sp_whole := by
  refine T.whole.F.ok sc_whole (fun vs H Q E h => ?_) (fun cdv A outer s H vs Q E hr h => ?_)
  · obtain ⟨i, rfl, _⟩ := h; rfl
  · obtain ⟨i, rfl, q⟩ := h
    refine ⟨_, (pss_one (ps_ret (pe_and (pe_callB call_isi (by rfl) T.n_isinstance (by decide +kernel) (pa_cons (pv 0) (pa_cons (pe_bltn (v := .ty "int") (by rfl) T.n_int (by decide +kernel) rfl) pa_nil))) (pe_one (pe_not (pe_callB call_isi (by rfl) T.n_isinstance (by decide +kernel) (pa_cons (pv 0) (pa_cons (pe_bltn (v := .ty "bool") (by rfl) T.n_bool (by decide +kernel) rfl) pa_nil)))))))), ?_⟩
    refine ⟨_, rfl, _, _, _, _, _, rfl, .ty _, .base (.int i), kit_ty (b := "int") (r := true) (by decide +kernel), true, rfl, iteT ⟨_, rfl, _, _, _, _, _, rfl, .ty _, .base (.int i), kit_ty (b := "bool") (r := false) (by decide +kernel), false, rfl, q⟩⟩
theorem sc_whole_within : FnScope ["thing", "low", "high"] ["thing", "low", "high"] (defScope s_whole_within) := ⟨rfl, rfl, rfl, by decide +kernel, rfl, by decide +kernel, by decide +kernel⟩
def sp_whole_within : Sp := fun vs H Q _ => ∃ i a b : Int, vs = [.int i, .int a, .int b] ∧ Q (.bl (decide (a ≤ i ∧ i ≤ b))) H
theorem ok_whole_within (T : Tx K mg) : FnOk P w K mg base CX0 2 T.whole_within.f T.whole_within.fd ["thing", "low", "high"] sp_whole_within := by
  refine T.whole_within.F.ok sc_whole_within (fun vs H Q E h => ?_) (fun cdv A outer s H vs Q E hr h => ?_)
  · obtain ⟨i, a, b, rfl, _⟩ := h; rfl
  · obtain ⟨i, a, b, rfl, q⟩ := h
    refine ⟨_, (pss_one (ps_ret (pe_and (pe_call (ok_whole T) (hr.mono (by decide)) (by rfl) T.whole.g T.whole.F.kp T.whole.b .nil pass0 (pa_cons (pv 0) pa_nil)) (pe_one (pe_chain op_le op_le (pv 1) (pv 0) (pv 2)))))), ?_⟩
    refine ⟨_, rfl, i, rfl, true, rfl, iteT ⟨_, rfl, _, rfl, _, _, rfl, rfl, _, rfl, ?_⟩⟩
    by_cases h1 : a ≤ i
    · rw [decide_eq_true h1]
      refine iteT ⟨_, rfl, _, _, rfl, rfl, ?_⟩
      have e : decide (a ≤ i ∧ i ≤ b) = decide (i ≤ b) := by simp [h1]
      rw [e] at q
      exact q
    · rw [decide_eq_false h1]
      have e : decide (a ≤ i ∧ i ≤ b) = false := by simp [h1]
      rw [e] at q
      exact iteF q
theorem sc_tuple_within : FnScope ["thing", "low", "high"] ["thing", "low", "high"] (defScope s_tuple_within) := ⟨rfl, rfl, rfl, by decide +kernel, rfl, by decide +kernel, by decide +kernel⟩
def sp_tuple_within (K : PySem.W.Frag) : Sp := fun vs H Q _ => ∃ (t : Addr) (xs : List V) (a b : Int), vs = [.ref t, .int a, .int b] ∧ SqT K H t xs ∧ TyX K H (.ref t) (.type "tuple") ∧ Q (.bl (decide (a ≤ (xs.length : Int) ∧ (xs.length : Int) ≤ b))) H
theorem ok_tuple_within (T : Tx K mg) : FnOk P w K mg base CX0 1 T.tuple_within.f T.tuple_within.fd ["thing", "low", "high"] (sp_tuple_within K) := by
  refine T.tuple_within.F.ok sc_tuple_within (fun vs H Q E h => ?_) (fun cdv A outer s H vs Q E hr h => ?_)
  · obtain ⟨t, xs, a, b, rfl, _⟩ := h; rfl
  · obtain ⟨t, xs, a, b, rfl, ht, ty, q⟩ := h
    refine ⟨_, (pss_one (ps_ret (pe_and (pe_callB call_isi (by rfl) T.n_isinstance (by decide +kernel) (pa_cons (pv 0) (pa_cons (pe_bltn (v := .ty "tuple") (by rfl) T.n_tuple (by decide +kernel) rfl) pa_nil))) (pe_one (pe_chain op_le op_le (pv 1) (pe_callB call_len_seq (by rfl) T.n_len PySem.boot_len (pa_cons (pv 0) pa_nil)) (pv 2)))))), ?_⟩
    refine ⟨_, rfl, _, _, _, _, _, rfl, .ty _, ty, kit_ty (b := "tuple") (r := true) (by decide +kernel), true, rfl, iteT ⟨_, rfl, _, rfl, t, xs, rfl, .inr ht, _, _, rfl, rfl, _, rfl, ?_⟩⟩
    by_cases h1 : a ≤ (xs.length : Int)
    · rw [decide_eq_true h1]
      refine iteT ⟨_, rfl, _, _, rfl, rfl, ?_⟩
      have e : decide (a ≤ (xs.length : Int) ∧ (xs.length : Int) ≤ b) = decide ((xs.length : Int) ≤ b) := by simp [h1]
      rw [e] at q
      exact q
    · rw [decide_eq_false h1]
      have e : decide (a ≤ (xs.length : Int) ∧ (xs.length : Int) ≤ b) = false := by simp [h1]
      rw [e] at q
      exact iteF q
theorem SqT.ty {K : PySem.W.Frag} {H : Hp} {a : Addr} {xs : List V} (h : SqT K H a xs) : TyX K H (.ref a) (.type "tuple") := by
  rcases h with (h | ⟨o, h⟩) | ⟨o, its, n, e, c, _⟩
  · exact .base (.tup h)
  · exact .fTuple h
  · exact .kTuple e c
/-! ### the law's draws -/
/-- the pool at p, its list at l -/
def PoolAt (H : Hp) (p l : Addr) : Prop := p ≠ l ∧ ∃ (x y : Int) (ns : List Int), H p = some (.lst [.int x, .int y, .ref l]) ∧ H l = some (.lst (ns.map V.int)) ∧ 0 ≤ x ∧ 0 ≤ y ∧ y < 4294967296 ∧ ns.length ≤ 63
theorem PoolAt.lsts {H : Hp} {p l : Addr} (h : PoolAt H p l) : Lsts [p, l] H := by
  obtain ⟨_, x, y, ns, h1, h2, _⟩ := h
  exact two_lsts h1 h2
theorem PoolAt.ext {H H' : Hp} {p l : Addr} {L : List Addr} (h : PoolAt H p l) (e : Ext L H H') (h1 : p ∉ L) (h2 : l ∉ L) : PoolAt H' p l := by
  obtain ⟨n, x, y, ns, a, b, r⟩ := h
  exact ⟨n, x, y, ns, e _ _ h1 a, e _ _ h2 b, r⟩
theorem PoolAt.ext0 {H H' : Hp} {p l : Addr} (h : PoolAt H p l) (e : Ext [] H H') : PoolAt H' p l := h.ext e (by simp) (by simp)
theorem sc_law_pool : FnScope ["script", "first", "size"] ["script"] (defScope s_law_pool) := ⟨rfl, rfl, rfl, by decide +kernel, rfl, by decide +kernel, by decide +kernel⟩
def sp_law_pool (K : PySem.W.Frag) : Sp := fun vs H Q _ => ∃ (a : Addr) (ns : List Int), vs = [.ref a] ∧ SqL K H a (ns.map V.int) ∧ ns.length ≤ 63 ∧ ∀ (p l : Addr) (H' : Hp), H p = none → H l = none → PoolAt H' p l → Ext [] H H' → Q (.ref p) H'
theorem ok_law_pool (T : Tx K mg) : FnOk P w K mg base CX0 1 T.law_pool.f T.law_pool.fd ["script"] (sp_law_pool K) := by
  refine T.law_pool.F.ok sc_law_pool (fun vs H Q E h => ?_) (fun cdv A outer s H vs Q E hr h => ?_)
  · obtain ⟨a, ns, rfl, _⟩ := h; rfl
  · obtain ⟨a, ns, rfl, hS, hl, q⟩ := h
    refine ⟨_, (C8.pss_cut (ps_set (i := 1) sc_law_pool.nd rfl (.inl rfl) (pe_mid (pe_ifExp (pt_cmpR op_gt (pe_callB call_len_seq (by rfl) T.n_len PySem.boot_len (pa_cons (pv 0) pa_nil)) pe_int (nomark _)) (pe_callTy call_int1 (by rfl) T.n_int (by decide +kernel) (pa_cons (pe_ix ix_list (pv 0) pe_int (fun _ _ => rfl)) pa_nil)) pe_int)))
      (C8.pss_cut (ps_set (i := 2) sc_law_pool.nd rfl (.inl rfl) (pe_mid (pe_ifExp (pt_cmpR op_ge (pv 1) pe_int (nomark _)) (pe_op op_mul pe_int (pv 1)) (pe_op op_sub (pe_un un_neg pe_int) (pe_op op_mul pe_int (pv 1))))))
      (pss_one (ps_ret (pe_lst (pa_cons (pe_mid (pe_ifExp (pt_cmpR op_ge (pv 2) (pe_op op_pow pe_int pe_int) (nomark _)) (pv 2) pe_int)) (pa_cons (pe_op op_add (pe_op op_mod (pe_callTy call_int1 (by rfl) T.n_int (by decide +kernel) (pa_cons (pe_op op_add (pe_op op_mul (pv 2) pe_int) pe_int) pa_nil)) pe_int) pe_int) (pa_cons (pe_callTy call_list_of (by rfl) T.n_list (by decide +kernel) (pa_cons (pe_slice sl_list (pv 0) (po_some pe_int) po_none) pa_nil)) pa_nil)))))))), ?_⟩
    refine ⟨fun σ' H' => H' = H ∧ ∃ i : Int, σ' = [some (.ref a), some (.int i), none], ?_, ?_⟩
    · refine ⟨fun v H' => H' = H ∧ ∃ i : Int, v = .int i, ?_, ?_⟩
      · refine ⟨_, rfl, a, _, rfl, .inl hS, _, _, rfl, rfl, _, rfl, ite2 (fun e => ?_) (fun e => ?_)⟩
        · cases ns with
          | nil => simp at e
          | cons n r => exact ⟨_, rfl, _, _, _, _, rfl, rfl, hS, atI_nat (j := 0) rfl, .inl ⟨_, rfl, rfl, _, rfl⟩⟩
        · exact ⟨rfl, _, rfl⟩
      · rintro v H' ⟨rfl, i, rfl⟩
        exact ⟨rfl, i, rfl⟩
    · rintro σ' H' ⟨rfl, i, rfl⟩
      refine ⟨fun σ' H1 => H1 = H' ∧ ∃ z : Int, 0 ≤ z ∧ σ' = [some (.ref a), some (.int i), some (.int z)], ?_, ?_⟩
      · refine ⟨fun v H1 => H1 = H' ∧ ∃ z : Int, 0 ≤ z ∧ v = .int z, ?_, ?_⟩
        · refine ⟨_, rfl, _, _, rfl, rfl, _, rfl, ite2 (fun e => ?_) (fun e => ?_)⟩
          · have e := of_decide_eq_true e
            exact ⟨_, rfl, _, _, rfl, rfl, .inl ⟨by decide, by decide⟩, rfl, _, by omega, rfl⟩
          · have e : ¬ (0 ≤ i) := fun z => e (decide_eq_true z)
            exact ⟨_, rfl, _, rfl, _, _, rfl, rfl, .inl ⟨by decide, by decide⟩, _, _, rfl, rfl, rfl, _, by omega, rfl⟩
        · rintro v H1 ⟨rfl, z, hz, rfl⟩
          exact ⟨rfl, z, hz, rfl⟩
      · rintro σ' H1 ⟨rfl, z, hz, rfl⟩
        have ym : 0 ≤ (z * 48271 + 1009) % 2147483629 + 3 ∧ (z * 48271 + 1009) % 2147483629 + 3 < 4294967296 := by omega
        refine ⟨fun v H' => H' = H1 ∧ ∃ x : Int, 0 ≤ x ∧ v = .int x, ?_, ?_⟩
        · refine ⟨_, rfl, _, _, rfl, rfl, ⟨by decide, by decide, by decide⟩, _, _, rfl, rfl, _, rfl, ite2 (fun e => ?_) (fun e => ?_)⟩
          · exact ⟨_, rfl, rfl, z, hz, rfl⟩
          · exact ⟨rfl, 0, by omega, rfl⟩
        · rintro v H' ⟨rfl, x, hx, rfl⟩
          refine ⟨_, rfl, _, _, rfl, rfl, .inr ⟨by decide, by decide⟩, _, _, rfl, rfl, .inl ⟨_, rfl, _, _, rfl, rfl, (by show (0:Int) < 2147483629; decide), _, _, rfl, rfl, ?_⟩⟩
          refine ⟨.ref a, rfl, 1, rfl, a, _, rfl, hS, fun c hc => ⟨c, _, rfl, .inl (.of upd_same), fun l hl0 => ⟨(by show 3 ≤ sizeLine; decide), fun p hp => ?_⟩⟩⟩
          have s1 : Ext [] H' (upd H' c (.lst (cutV (ns.map V.int) (some 1) none))) := .new hc
          have s2 := s1.trans (Ext.new (L := []) (o := .lst (cutV (ns.map V.int) (some 1) none)) hl0)
          have pl : p ≠ l := fun e => by rw [e, upd_same] at hp; cases hp
          have cut : ∃ ms : List Int, cutV (ns.map V.int) (some 1) none = ms.map V.int ∧ ms.length ≤ 63 := by
            unfold cutV
            exact ⟨(ns.drop _).take _, by rw [List.map_take, List.map_drop], by rw [List.length_take, List.length_drop]; omega⟩
          obtain ⟨ms, em, hm⟩ := cut
          refine q p l _ (s2.free hp) (s1.free hl0) ⟨pl, x, _, ms, upd_same, ?_, hx, ym.1, ym.2, hm⟩ (s2.trans (.new hp))
          rw [upd_ne pl.symm, upd_same, em]
theorem sc_law_draw : FnScope ["pool", "many", "cell", "size", "found"] ["pool", "many"] (defScope s_law_draw) := ⟨rfl, rfl, rfl, by decide +kernel, rfl, by decide +kernel, by decide +kernel⟩
def sp_law_draw : Sp := fun vs H Q _ => ∃ (p l : Addr) (m : Int), vs = [.ref p, .int m] ∧ PoolAt H p l ∧ 0 < m ∧ m < 1073741824 ∧ ∀ (r : Int) (H' : Hp), 0 ≤ r → r < m → PoolAt H' p l → Ext [p, l] H H' → Q (.int r) H'
theorem ok_law_draw (T : Tx K mg) : FnOk P w K mg base CX0 1 T.law_draw.f T.law_draw.fd ["pool", "many"] sp_law_draw := by
  refine T.law_draw.F.ok sc_law_draw (fun vs H Q E h => ?_) (fun cdv A outer s H vs Q E hr h => ?_)
  · obtain ⟨p, l, m, rfl, _⟩ := h; rfl
  · obtain ⟨p, l, m, rfl, hP, hm, hm2, q⟩ := h
    refine ⟨_, (C8.pss_cut (ps_if (PW.pt (pw_and (pt_cmpR op_eq (pe_ix ix_list (pv 0) pe_int (fun _ _ => rfl)) pe_int (nomark _)) (pw_and1 (pt_cmpR (op_neD (hr.units)) (pe_ix ix_list (pv 0) pe_int (fun _ _ => rfl)) (pe_lst pa_nil) (nomark _)))))
        (pss_cons (ps_set (i := 2) sc_law_draw.nd rfl (.inl rfl) (pe_callTy call_int1 (by rfl) T.n_int (by decide +kernel) (pa_cons (pe_bm PySem.F.plainAttrs_list PySem.F.slot_list_pop PySem.F.type_list_pop mt_popAt (pe_ix ix_list (pv 0) pe_int (fun _ _ => rfl)) (pa_cons pe_int pa_nil)) pa_nil)))
        (pss_cons (ps_set (i := 3) sc_law_draw.nd rfl (.inl rfl) (pe_mid (pe_ifExp (pt_cmpR op_ge (pv 2) pe_int (nomark _)) (pe_op op_mul pe_int (pv 2)) (pe_op op_sub (pe_un un_neg pe_int) (pe_op op_mul pe_int (pv 2))))))
        (pss_cons (ps_asg (pe_mid (pe_ifExp (pt_cmpR op_ge (pv 3) (pe_op op_pow pe_int pe_int) (nomark _)) (pv 3) pe_int)) (pg_sub (pv 0) pe_int set_list))
        (pss_one (ps_asg (pe_op op_add (pe_op op_mod (pe_callTy call_int1 (by rfl) T.n_int (by decide +kernel) (pa_cons (pe_op op_add (pe_ix ix_list (pv 0) pe_int (fun _ _ => rfl)) (pe_op op_mul (pv 3) pe_int)) pa_nil)) pe_int) pe_int) (pg_sub (pv 0) pe_int set_list))))))
        pss_nil)
      (pss_cons (ps_if (pt_cmpR op_gt (pe_ix ix_list (pv 0) pe_int (fun _ _ => rfl)) pe_int (nomark _))
        (pss_cons (ps_set (i := 4) sc_law_draw.nd rfl (.inl rfl) (pe_op op_mod (pe_callTy call_int1 (by rfl) T.n_int (by decide +kernel) (pa_cons (pe_ix ix_list (pv 0) pe_int (fun _ _ => rfl)) pa_nil)) (pv 1)))
        (pss_cons (ps_asg (pe_op op_fdiv (pe_ix ix_list (pv 0) pe_int (fun _ _ => rfl)) (pv 1)) (pg_sub (pv 0) pe_int set_list))
        (pss_one (ps_ret (pv 4)))))
        pss_nil)
      (pss_cons (ps_asg (pe_op op_mod (pe_callTy call_int1 (by rfl) T.n_int (by decide +kernel) (pa_cons (pe_op op_add (pe_op op_mul (pe_ix ix_list (pv 0) pe_int (fun _ _ => rfl)) pe_int) pe_int) pa_nil)) pe_int) (pg_sub (pv 0) pe_int set_list))
      (pss_one (ps_ret (pe_op op_mod (pe_op op_fdiv (pe_op op_mod (pe_callTy call_int1 (by rfl) T.n_int (by decide +kernel) (pa_cons (pe_op op_mul (pe_ix ix_list (pv 0) pe_int (fun _ _ => rfl)) (pe_ix ix_list (pv 0) pe_int (fun _ _ => rfl))) pa_nil)) pe_int) pe_int) (pv 1))))))), ?_⟩
    obtain ⟨npl, x, y, ns, hp, hl, hx, hy, hy2, hn⟩ := id hP
    refine ⟨fun σ' H' => PoolAt H' p l ∧ Ext [p, l] H H' ∧ ∃ a b c, σ' = [some (.ref p), some (.int m), a, b, c], ?_, ?_⟩
    · refine ⟨_, rfl, _, _, _, _, rfl, rfl, .of hp, atI_nat (j := 0) rfl, rfl, _, rfl, ite2 (fun e => ?_) (fun e => ?_)⟩
      · refine ⟨_, rfl, _, _, _, _, rfl, rfl, .of hp, atI_nat (j := 2) rfl, by decide, fun c hc => ?_⟩
        have s1 : Ext [] H (upd H c (.lst [])) := .new hc
        refine ⟨_, _, .lst (.of (s1.at hl (by simp))) (dp_ints ns), .lst (.of upd_same) .nil, shaped_ints ns, by decide, _, rfl, ?_⟩
        rw [eqv_nil]
        cases ns with
        | nil =>
          rw [decide_eq_true rfl]
          exact iteF ⟨hP.ext0 s1, s1.weak, _, _, _, rfl⟩
        | cons n r =>
          rw [decide_eq_false (by simp)]
          refine iteT ?_
          have hp1 := s1.at hp (by simp)
          have hl1 := s1.at hl (by simp)
          -- cell
          refine ⟨_, rfl, _, _, _, _, rfl, rfl, .of hp1, atI_nat (j := 2) rfl, .inl ⟨rfl, _, .of hl1⟩, l, _, 0, 0, .int n, rfl, rfl, hl1, by decide, by decide, (by simp [seqIndex?]), rfl, .inl ⟨_, rfl, ?_⟩⟩
          have hp2 : upd (upd H c (.lst [])) l (.lst (((n :: r).map V.int).eraseIdx 0)) p = some (.lst [.int x, .int y, .ref l]) := by rw [upd_ne npl]; exact hp1
          have hl2 : upd (upd H c (.lst [])) l (.lst (((n :: r).map V.int).eraseIdx 0)) l = some (.lst (r.map V.int)) := upd_same
          have s2 : Ext [p, l] H (upd (upd H c (.lst [])) l (.lst (((n :: r).map V.int).eraseIdx 0))) := s1.weak.trans (.wr (by simp))
          generalize upd (upd H c (.lst [])) l (.lst (((n :: r).map V.int).eraseIdx 0)) = H2 at hp2 hl2 s2
          -- size
          refine ⟨fun v H1 => H1 = H2 ∧ ∃ z : Int, 0 ≤ z ∧ v = .int z, ?_, ?_⟩
          · refine ⟨_, rfl, _, _, rfl, rfl, _, rfl, ite2 (fun e => ?_) (fun e => ?_)⟩
            · have e := of_decide_eq_true e
              exact ⟨_, rfl, _, _, rfl, rfl, .inl ⟨by decide, by decide⟩, rfl, _, by omega, rfl⟩
            · have e : ¬ (0 ≤ n) := fun z => e (decide_eq_true z)
              exact ⟨_, rfl, _, rfl, _, _, rfl, rfl, .inl ⟨by decide, by decide⟩, _, _, rfl, rfl, rfl, _, by omega, rfl⟩
          · rintro v H1 ⟨rfl, z, hz, rfl⟩
            -- pool[0]
            refine ⟨fun v H' => H' = H1 ∧ ∃ x : Int, 0 ≤ x ∧ v = .int x, ?_, ?_⟩
            · refine ⟨_, rfl, _, _, rfl, rfl, ⟨by decide, by decide, by decide⟩, _, _, rfl, rfl, _, rfl, ite2 (fun e => ?_) (fun e => ?_)⟩
              · exact ⟨_, rfl, rfl, z, hz, rfl⟩
              · exact ⟨rfl, 0, by omega, rfl⟩
            · rintro v H' ⟨rfl, x2, hx2, rfl⟩
              refine ⟨_, rfl, p, _, 0, 0, rfl, rfl, hp2, rfl, ?_⟩
              -- pool[1]
              refine ⟨_, rfl, _, _, _, _, rfl, rfl, .of upd_same, atI_nat (j := 1) rfl, _, rfl, _, _, rfl, rfl, .inr ⟨by decide, by decide⟩, _, _, rfl, rfl, .inl ⟨_, rfl, _, _, rfl, rfl, (by show (0:Int) < 2147483629; decide), _, _, rfl, rfl, ?_⟩⟩
              refine ⟨_, rfl, p, _, 1, 1, rfl, rfl, upd_same, rfl, ?_⟩
              rw [upd_upd]
              refine ⟨⟨npl, x2, _, r, upd_same, by rw [upd_ne npl.symm]; exact hl2, hx2, ?_, ?_, ?_⟩, s2.trans (.wr (by simp)), _, _, _, rfl⟩
              · omega
              · omega
              · simp at hn; omega
      · exact iteF ⟨hP, .refl, _, _, _, rfl⟩
    · rintro σ' H1 ⟨⟨npl, x, y, ns, hp, hl, hx, hy, hy2, hn⟩, e1, a, b, c, rfl⟩
      refine ⟨_, rfl, _, _, _, _, rfl, rfl, .of hp, atI_nat (j := 0) rfl, _, _, rfl, rfl, _, rfl, ite2 (fun e => ?_) (fun e => ?_)⟩
      · refine ⟨_, rfl, _, _, _, _, rfl, rfl, .of hp, atI_nat (j := 0) rfl, .inl ⟨_, rfl, _, rfl, _, _, rfl, rfl, hm, ?_⟩⟩
        refine ⟨_, rfl, _, _, _, _, rfl, rfl, .of hp, atI_nat (j := 0) rfl, _, rfl, _, _, rfl, rfl, ⟨hm, hm2⟩, _, rfl, p, _, 0, 0, rfl, rfl, hp, rfl, ?_⟩
        refine ⟨_, rfl, q _ _ (Int.emod_nonneg _ (by omega)) (Int.emod_lt_of_pos _ hm) ⟨npl, x / m, y, ns, upd_same, by rw [upd_ne npl.symm]; exact hl, Int.ediv_nonneg hx (by omega), hy, hy2, hn⟩ (e1.trans (.wr (by simp)))⟩
      · refine ⟨_, rfl, _, _, _, _, rfl, rfl, .of hp, atI_nat (j := 1) rfl, _, _, rfl, rfl, .inr ⟨by decide, by decide⟩, _, _, rfl, rfl, .inl ⟨_, rfl, _, _, rfl, rfl, (by show (0:Int) < 2147483647; decide), ?_⟩⟩
        refine ⟨_, rfl, p, _, 1, 1, rfl, rfl, hp, rfl, ?_⟩
        have yb : 0 ≤ (y * 48271 + 11) % 2147483647 ∧ (y * 48271 + 11) % 2147483647 < 2147483647 := by omega
        refine ⟨_, rfl, _, _, _, _, rfl, rfl, .of upd_same, atI_nat (j := 1) rfl, _, rfl, _, _, _, _, rfl, rfl, .of upd_same, atI_nat (j := 1) rfl, _, _, rfl, rfl, .inl ⟨by omega, by omega⟩, .inl ⟨_, rfl, _, _, rfl, rfl, (by show (0:Int) < 2147483629; decide), _, _, rfl, rfl, ⟨by decide, by decide⟩, _, rfl, _, _, rfl, rfl, hm, ?_⟩⟩
        exact q _ _ (Int.emod_nonneg _ (by omega)) (Int.emod_lt_of_pos _ hm) ⟨npl, x, _, ns, upd_same, by rw [upd_ne npl.symm]; exact hl, hx, yb.1, by omega, hn⟩ (e1.trans (.wr (by simp)))
theorem sc_law_pick : FnScope ["pool", "things"] ["pool", "things"] (defScope s_law_pick) := ⟨rfl, rfl, rfl, by decide +kernel, rfl, by decide +kernel, by decide +kernel⟩
def sp_law_pick (K : PySem.W.Frag) : Sp := fun vs H Q _ => ∃ (p l t : Addr) (xs : List V), vs = [.ref p, .ref t] ∧ PoolAt H p l ∧ SqL K H t xs ∧ t ≠ p ∧ t ≠ l ∧ 0 < xs.length ∧ xs.length < 1000 ∧ ∀ (i : Nat) (v : V) (H' : Hp), xs[i]? = some v → PoolAt H' p l → Ext [p, l] H H' → Q v H'
theorem ok_law_pick (T : Tx K mg) : FnOk P w K mg base CX0 2 T.law_pick.f T.law_pick.fd ["pool", "things"] (sp_law_pick K) := by
  refine T.law_pick.F.ok sc_law_pick (fun vs H Q E h => ?_) (fun cdv A outer s H vs Q E hr h => ?_)
  · obtain ⟨p, l, t, xs, rfl, _⟩ := h; rfl
  · obtain ⟨p, l, t, xs, rfl, hP, hS, n1, n2, h0, h1, q⟩ := h
    refine ⟨_, (pss_one (ps_ret (pe_ix ix_list (pv 1) (pe_call (ok_law_draw T) (hr.mono (by decide)) (by rfl) T.law_draw.g T.law_draw.F.kp T.law_draw.b .nil pass0 (pa_cons (pv 0) (pa_cons (pe_callB call_len_seq (by rfl) T.n_len PySem.boot_len (pa_cons (pv 1) pa_nil)) pa_nil))) (fun _ _ => rfl)))), ?_⟩
    refine ⟨_, rfl, _, rfl, _, rfl, t, xs, rfl, .inl hS, p, l, _, rfl, hP, by omega, by omega, fun r H' r0 r1 hP' e => ?_⟩
    obtain ⟨i, rfl⟩ : ∃ i : Nat, r = (i : Int) := ⟨r.toNat, by omega⟩
    have hi : i < xs.length := by omega
    exact ⟨t, xs, _, xs[i], rfl, rfl, e.frz (by simp [n1, n2]) hS, atI_nat (List.getElem?_eq_getElem hi), q i _ _ (List.getElem?_eq_getElem hi) hP' e⟩
end
end Nv
set_option Elab.async false
set_option linter.all false
set_option maxRecDepth 100000
namespace Nv
open PySem PySem.Spec PyProof.Rows L2
section
variable {P : Program} {w : World} {K : PySem.W.Frag} {mg : Str → Option Value} {base : Heap}
/-! ### the law's books: meeting -/
theorem sc_law_book_meeting : FnScope ["moves", "found", "at", "message", "to", "state"] ["moves"] (defScope s_law_book_meeting) := ⟨rfl, rfl, rfl, by decide +kernel, rfl, by decide +kernel, by decide +kernel⟩
def sp_law_book_meeting (K : PySem.W.Frag) : Sp := fun vs H Q _ => ∃ (m : V) (b : Book), vs = [m] ∧ LbV K H m b ∧ 1 ≤ b.length ∧ b.length ≤ 1000 ∧ (∀ s, (mvs b s).length ≤ 1000 ∧ ∀ p ∈ mvs b s, p.2 < b.length) ∧ ∀ (F : List Nat) (v : V) (H' : Hp), Met b F → BkV K H' v (rename b F) → Ext [] H H' → Q v H'
theorem ok_law_book_meeting (T : Tx K mg) : FnOk P w K mg base CX0 1 T.law_book_meeting.f T.law_book_meeting.fd ["moves"] (sp_law_book_meeting K) := by
  refine T.law_book_meeting.F.ok sc_law_book_meeting (fun vs H Q E h => ?_) (fun cdv A outer s H vs Q E hr h => ?_)
  · obtain ⟨m, b, rfl, _⟩ := h; rfl
  · obtain ⟨_, b, rfl, ⟨m, ls, rfl, hm, hls⟩, h1, h2, hto, q⟩ := h
    have llen : ls.length = b.length := Paired.len hls
    refine ⟨_, (pss_cons (ps_set (i := 1) sc_law_book_meeting.nd rfl (.inr rfl) (pe_lst (pa_cons pe_int pa_nil)))
      (C8.pss_cut (ps_for PassesOwn.never rfl (pi_range1 (by rfl) T.n_range (pa_cons (pe_callB call_len_seq (by rfl) T.n_len PySem.boot_len (pa_cons (pv 0) pa_nil)) pa_nil)) (pg_name (i := 2) sc_law_book_meeting.nd rfl (.inl rfl))
        (pss_cons (ps_if (pt_cmpR op_eq (pv 2) (pe_callB call_len_seq (by rfl) T.n_len PySem.boot_len (pa_cons (pv 1) pa_nil)) (nomark _))
          (pss_one ps_break)
          pss_nil)
        (pss_one (ps_for PassesOwn.never rfl (pi_list (pe_ix ix_list (pv 0) (pe_ix ix_list (pv 1) (pv 2) (fun _ _ => rfl)) (fun _ _ => rfl))) (pg_tup rfl (pgs_cons (pg_name (i := 3) sc_law_book_meeting.nd rfl (.inl rfl)) (pgs_cons (pg_name (i := 4) sc_law_book_meeting.nd rfl (.inl rfl)) pgs_nil)))
          (pss_one (ps_if (pt_cmpR op_notIn_seq (pv 4) (pv 1) (by rfl))
            (pss_one (ps_expr (pe_bm PySem.F.plainAttrs_list PySem.F.slot_list_append PySem.F.type_list_append mt_append (pv 1) (pa_cons (pv 4) pa_nil))))
            pss_nil))))))
      (pss_one (ps_ret (pe_callTy call_tupZ (by rfl) T.n_tuple (by decide +kernel) (pa_cons (pe_lc (own := [("state", 5)]) rfl sc_law_book_meeting.nd (pi_list (pv 1)) (blkOk_by (own := [("state", 5)]) (N := ["moves", "found", "at", "message", "to", "state"]) (sc := defScope s_law_book_meeting) (by decide +kernel)) (fun _ _ _ _ _ => (pg_name (i := 5) sc_law_book_meeting.nd rfl (.inl rfl))) (fun _ _ _ _ _ => pts_nil) (fun _ _ _ _ _ => (pe_callTy (call_tupZK K) (by rfl) T.n_tuple (by decide +kernel) (pa_cons (pe_lc (own := [("message", 3), ("to", 4)]) rfl sc_law_book_meeting.nd (pi_listK K (pe_ix (ix_listK K) (pv 0) (pv 5) (fun _ _ => rfl))) (blkOk_by (own := [("message", 3), ("to", 4)]) (by kernel_rfl)) (fun _ _ _ _ _ => (pg_tupK (n := 2) K rfl (pgs_cons (pg_name (i := 3) sc_law_book_meeting.nd rfl (.inl rfl)) (pgs_cons (pg_name (i := 4) sc_law_book_meeting.nd rfl (.inl rfl)) pgs_nil)))) (fun _ _ _ _ _ => pts_nil) (fun _ _ _ _ _ => (pe_tup (pa_cons (pv 3) (pa_cons (pe_bmK K PySem.F.plainAttrs_list PySem.F.slot_list_index PySem.F.type_list_index (mt_indexK K) (pv 1) (pa_cons (pv 4) pa_nil)) pa_nil))))) pa_nil)))) pa_nil)))))), ?_⟩
    -- found = [0]
    refine ⟨(by show 1 ≤ sizeLine; decide), fun f hf => ?_⟩
    have e0 : Ext [] H (upd H f (.lst [.int 0])) := .new hf
    have mf : m ≠ f := ne_of_none hm hf
    refine ⟨fun σ H' => ∃ (F : List Nat) (y2 y3 y4 : Option V), σ = [some (.ref m), some (.ref f), y2, y3, y4, none] ∧ Met b F ∧ Ext [] H H' ∧ H' f = some (.lst (F.map nV)), ?_, ?_⟩
    · refine ⟨_, rfl, m, ls, rfl, .inl (.of (e0.at hm (by simp))), _, rfl, by omega, by omega, for_range (lo := 0) (n := _) (fun i σ H' => ∃ (F : List Nat) (y2 y3 y4 : Option V), σ = [some (.ref m), some (.ref f), y2, y3, y4, none] ∧ MetI b F i ∧ Ext [] H H' ∧ H' f = some (.lst (F.map nV))) ⟨[0], _, _, _, rfl, .first h1, e0, upd_same⟩ ?_ ?_⟩
      · rintro i σ H' hi ⟨F, y2, y3, y4, rfl, mi, e, hF⟩
        simp only [Int.zero_add]
        have hin : i < b.length := by
          have : ((ls.length : Int)).toNat = ls.length := Int.toNat_natCast _
          omega
        -- if at == len(found)
        refine ⟨_, rfl, _, rfl, f, _, rfl, .inl (.of hF), rfl, _, rfl, ?_⟩
        rw [dec_int]
        refine ite2 (fun z => ?_) (fun z => ?_)
        · have z := of_decide_eq_true z
          rw [List.length_map] at z
          exact ⟨F, _, _, _, rfl, mi.met (.inl (by omega)), e, hF⟩
        · have z : ¬ ((i : Int) = ((F.map nV).length : Int)) := fun y => z (decide_eq_true y)
          rw [List.length_map] at z
          have hiF : i < F.length := by have := mi.le; omega
          have hs : F[i]? = some F[i] := List.getElem?_eq_getElem hiF
          generalize F[i] = x at hs
          have hx : x < b.length := mi.lt x (List.mem_of_getElem? hs)
          -- for message, to in moves[found[at]]
          obtain ⟨u, hu, hst⟩ := Paired.get hls (mvs_lt hx)
          obtain ⟨a, ps, rfl, ha, hps⟩ := hst
          refine ⟨_, rfl, _, rfl, _, rfl, f, _, _, _, rfl, rfl, .of hF, atI_nat (at_map hs), m, _, _, _, rfl, rfl, .of (e.at hm (by simp)), atI_nat hu, a, rfl, ⟨_, .of (e.at ha (by simp))⟩, ?_⟩
          have plen : ps.length = (mvs b x).length := Paired.len hps
          refine for_list (K := K) (a := a) (xs := ps.map V.ref) (fun k σ H' => ∃ (F : List Nat) (y3 y4 : Option V), σ = [some (.ref m), some (.ref f), some (.int i), y3, y4, none] ∧ MetW b F i x k ∧ Ext [] H H' ∧ H' f = some (.lst (F.map nV))) ⟨F, _, _, rfl, mi.begin hs, e, hF⟩ (fun k σ H' _ ⟨_, _, _, _, _, e, _⟩ => .of (e.at ha (by simp))) ?_ ?_
          · rintro k v σ H' hv ⟨F, y3, y4, rfl, mw, e, hF⟩
            obtain ⟨c, hc, rfl⟩ := map_at hv
            obtain ⟨p, hp, hcp⟩ := Paired.get' hps hc
            have hcp := hcp.ext0 e
            refine ⟨c, _, rfl, hcp, rfl, _, _, rfl, _, _, rfl, rfl, ?_⟩
            refine ⟨_, rfl, _, rfl, f, _, rfl, .inl (.of hF), rfl, flat_nV F, _, rfl, ?_⟩
            have pb : p.2 < b.length := (hto x).2 p (List.mem_of_getElem? hp)
            rw [show inV (V.int (p.2 : Int)) (F.map nV) = decide (p.2 ∈ F) from inV_nV p.2 F]
            by_cases hin : p.2 ∈ F
            · rw [decide_eq_true hin]
              exact iteF ⟨F, _, _, rfl, mw.skip hp hin, e, hF⟩
            · rw [decide_eq_false hin]
              have hl1000 : F.length ≤ 1000 := Nat.le_trans (nodup_le mw.nd mw.lt) h2
              refine iteT ⟨_, rfl, .inl ⟨rfl, _, .of hF⟩, _, rfl, f, _, _, rfl, rfl, hF, by rw [List.length_map]; exact small1000 hl1000, F ++ [p.2], _, _, rfl, mw.push hp hin pb, e.put hf, ?_⟩
              rw [upd_same, List.map_append]
              rfl
          · rintro σ H' ⟨F, y3, y4, rfl, mw, e, hF⟩
            exact ⟨F, _, _, _, rfl, mw.done (by rw [List.length_map, plen]; exact Nat.le_refl _), e, hF⟩
      · rintro σ H' ⟨F, y2, y3, y4, rfl, mi, e, hF⟩
        exact ⟨F, _, _, _, rfl, mi.met (.inr (by rw [Int.toNat_natCast, llen])), e, hF⟩
    · rintro σ H1 ⟨F, y2, y3, y4, rfl, mt, e1, hF⟩
      have hl1000 : F.length ≤ 1000 := Nat.le_trans (nodup_le mt.nd mt.lt) h2
      -- the new book
      refine ⟨_, rfl, f, rfl, ⟨_, .of hF⟩, fun D hD => ?_⟩
      have fD : f ≠ D := ne_of_none hF hD
      have hDH : H D = none := e1.free hD
      refine lc_list (K := K) (a := f) (xs := F.map nV) (fun i H' => ∃ vs : List V, H' D = some (.lst vs) ∧ Paired (StV K H') vs ((rename b F).take i) ∧ Ext [] H H' ∧ H' f = some (.lst (F.map nV))) ⟨[], upd_same, .nil, e1.put2 hD, by rw [upd_ne fD]; exact hF⟩ (fun i H' _ ⟨_, _, _, _, h⟩ => .of h) ?_ ?_
      · rintro i v H' hv ⟨vs, hDv, hpd, e, hF'⟩
        obtain ⟨x, hx, rfl⟩ := map_at hv
        have hxb : x < b.length := mt.lt x (List.mem_of_getElem? hx)
        obtain ⟨u, hu, a, ps, rfl, ha, hps⟩ := Paired.get hls (mvs_lt hxb)
        have plen : ps.length = (mvs b x).length := Paired.len hps
        refine ⟨rfl, yes ?_⟩
        refine ⟨_, rfl, _, rfl, m, _, _, _, rfl, rfl, .of (e.at hm (by simp)), atI_nat hu, a, rfl, ⟨_, .of (e.at ha (by simp))⟩, fun D2 hD2 => ?_⟩
        have hD2H : H D2 = none := e.free hD2
        have n1 : D ≠ D2 := ne_of_none hDv hD2
        have n2 : f ≠ D2 := ne_of_none hF' hD2
        refine lc_list (K := K) (a := a) (xs := ps.map V.ref) (fun k H2 => ∃ qs : List Addr, H2 D2 = some (.lst (qs.map V.ref)) ∧ Paired (MvV K H2) qs (((mvs b x).take k).map fun p => (p.1, F.idxOf p.2)) ∧ Ext [] H' H2) ⟨[], upd_same, .nil, .new hD2⟩ (fun k H2 _ ⟨_, _, _, e2⟩ => .of ((e.trans e2).at ha (by simp))) ?_ ?_
        · rintro k v H2 hv ⟨qs, hq, hqp, e2⟩
          obtain ⟨c, hc, rfl⟩ := map_at hv
          obtain ⟨p, hp, hcp⟩ := Paired.get' hps hc
          have hcp := hcp.ext0 (e.trans e2)
          have hF2 := e2.at hF' (by simp)
          have pin : p.2 ∈ F := mt.cl x (List.mem_of_getElem? hx) p (List.mem_of_getElem? hp)
          have hidx : F.idxOf p.2 < F.length := List.idxOf_lt_length_of_mem pin
          refine ⟨c, _, rfl, hcp, rfl, _, _, rfl, _, _, rfl, rfl, rfl, yes ?_⟩
          refine ⟨_, rfl, _, rfl, .inl ⟨rfl, _, .of hF2⟩, _, rfl, f, _, _, F.idxOf p.2, nV p.2, rfl, rfl, .of hF2, rfl, flat_nV F, ?_, by rw [show V.int (p.2 : Int) = nV p.2 from rfl, eqV_nV]; simp, ?_, ?_⟩
          · exact at_map (by rw [List.getElem?_eq_getElem hidx, List.getElem_idxOf])
          · intro j z hj hz
            obtain ⟨y, hy, rfl⟩ := map_at hz
            rw [show V.int (p.2 : Int) = nV p.2 from rfl, eqV_nV]
            refine decide_eq_false fun ey => ?_
            subst ey
            have := idx_of mt.nd hy
            omega
          · refine ⟨(by show 2 ≤ sizeLine; decide), fun t ht => ?_⟩
            have tD2 : D2 ≠ t := ne_of_none hq ht
            have e3 : Ext [] H2 (upd H2 t (.tup [.int p.1, .int (F.idxOf p.2 : Nat)])) := .new ht
            refine ⟨_, e3.at hq (by simp), ?_, qs ++ [t], by rw [upd_same, List.map_append]; rfl, ?_, (e2.trans e3).put hD2⟩
            · rw [List.length_map, Paired.len hqp, List.length_map, List.length_take]
              exact small1000 (Nat.le_trans (Nat.min_le_right _ _) (hto x).1)
            · rw [List.take_add_one, hp, List.map_append]
              refine Paired.snoc ?_ (Paired.imp hqp fun _ _ z => (z.ext0 e3).put (e3.at hq (by simp)))
              exact MvV.put (m := (p.1, F.idxOf p.2)) (.of upd_same) (e3.at hq (by simp))
        · rintro H2 ⟨qs, hq, hqp, e2⟩
          have ek : (mvs b x).take (ps.map V.ref).length = mvs b x := List.take_of_length_le (by rw [List.length_map, plen]; exact Nat.le_refl _)
          rw [ek] at hqp
          refine ⟨D2, _, rfl, .of hq, fun t H3 ht hH3 => ?_⟩
          obtain ⟨o, od, rfl⟩ := hH3
          have e3 : Ext [] H2 (upd H2 t (.frz o (.tup (qs.map V.ref)))) := .new ht
          have e4 := e2.trans e3
          refine ⟨vs, e4.at hDv (by simp), ?_, vs ++ [.ref t], upd_same, ?_, (e.trans e4).put hDH, by rw [upd_ne fD]; exact e4.at hF' (by simp)⟩
          · rw [Paired.len hpd, List.length_take]
            exact small1000 (Nat.le_trans (Nat.min_le_right _ _) (by rw [rename_len]; exact hl1000))
          · have hr' : (rename b F)[i]? = some ((mvs b x).map fun p => (p.1, F.idxOf p.2)) := by
              unfold rename
              rw [List.getElem?_map, hx]
              rfl
            rw [List.take_add_one, hr']
            have hDe := e4.at hDv (by simp)
            refine Paired.snoc ?_ (Paired.imp hpd fun _ _ z => (z.ext0 e4).put hDe)
            exact StV.put ⟨t, qs, rfl, ⟨o, upd_same, od⟩, Paired.imp hqp fun _ _ z => z.ext0 e3⟩ hDe
      · rintro H' ⟨vs, hDv, hpd, e, hF'⟩
        refine ⟨D, vs, rfl, .of hDv, fun t H3 ht hH3 => ?_⟩
        obtain ⟨o, od, rfl⟩ := hH3
        have e3 : Ext [] H' (upd H' t (.frz o (.tup vs))) := .new ht
        have ek : (rename b F).take (F.map nV).length = rename b F := List.take_of_length_le (by rw [List.length_map, rename_len]; exact Nat.le_refl _)
        rw [ek] at hpd
        exact q F _ _ mt ⟨t, vs, rfl, .inl (.inr ⟨o, upd_same⟩), Paired.imp hpd fun _ _ z => z.ext0 e3⟩ (e.trans e3)
end
end Nv
set_option Elab.async false
set_option linter.all false
set_option maxRecDepth 100000
namespace Nv
open PySem PySem.Spec PyProof.Rows L2
section
variable {P : Program} {w : World} {K : PySem.W.Frag} {mg : Str → Option Value} {base : Heap}
/-! ### the law's books: messages -/
theorem seqAt {k n : Nat} (h : k < n) : seqIndex? (k : Int) n = some k := by
  unfold seqIndex?
  have h1 : ¬ ((k : Int) < 0) := by omega
  have h2 : (0 : Int) ≤ k := by omega
  have h3 : (k : Int) < n := by omega
  simp [h1, h2, h3]
theorem sorted_nats {F : List Nat} {ns : List Int} (nd : F.Nodup) (p : ns.Perm (F.map fun n : Nat => (n : Int))) (r : ns.Pairwise (· ≤ ·)) : ∃ ms : List Nat, ns.map V.int = ms.map nV ∧ ms.Perm F ∧ ms.Pairwise (· < ·) := by
  have nn : ∀ z ∈ ns, ∃ n : Nat, z = (n : Int) := fun z hz => by
    obtain ⟨n, _, rfl⟩ := List.mem_map.mp (p.mem_iff.mp hz)
    exact ⟨n, rfl⟩
  have nd2 : ns.Nodup := by
    rw [p.nodup_iff]
    refine List.Pairwise.map _ (fun a b h e => h ?_) nd
    exact Int.ofNat.inj e
  have r2 := lt_of_le_nodup ns r nd2
  refine ⟨ns.map Int.toNat, ?_, ?_, ?_⟩
  · rw [List.map_map]
    refine List.map_congr_left fun z hz => ?_
    obtain ⟨n, rfl⟩ := nn z hz
    rfl
  · have q := p.map Int.toNat
    rw [List.map_map] at q
    have e : F.map (Int.toNat ∘ fun n : Nat => (n : Int)) = F := by
      conv => rhs; rw [← List.map_id F]
      exact List.map_congr_left fun z _ => rfl
    rw [e] at q
    exact q
  · rw [List.pairwise_map]
    refine List.Pairwise.imp_of_mem (fun {a b} ha hb h => ?_) r2
    obtain ⟨n, rfl⟩ := nn a ha
    obtain ⟨m, rfl⟩ := nn b hb
    simp
    omega
theorem map_nV_int (F : List Nat) : F.map nV = (F.map fun n : Nat => (n : Int)).map V.int := by rw [List.map_map]; rfl
theorem rgV_nV (n : Nat) : rgV 0 (n : Int) = (List.range n).map nV := by
  unfold rgV
  simp
theorem sc_law_book_messages : FnScope ["pool", "count", "way", "top", "left", "found", "turn"] ["pool", "count"] (defScope s_law_book_messages) := ⟨rfl, rfl, rfl, by decide +kernel, rfl, by decide +kernel, by decide +kernel⟩
def sp_law_book_messages : Sp := fun vs H Q _ => ∃ (p l : Addr) (c : Nat), vs = [.ref p, .int c] ∧ PoolAt H p l ∧ c ≤ 6 ∧ ∀ (ms : List Nat) (t : Addr) (H' : Hp), ms.Pairwise (· < ·) → ms.length = c → (∀ m ∈ ms, m ≤ 99) → H' t = some (.lst (ms.map nV)) → H t = none → PoolAt H' p l → Ext [p, l] H H' → Q (.ref t) H'
theorem ok_law_book_messages (T : Tx K mg) : FnOk P w K mg base CX0 2 T.law_book_messages.f T.law_book_messages.fd ["pool", "count"] sp_law_book_messages := by
  refine T.law_book_messages.F.ok sc_law_book_messages (fun vs H Q E h => ?_) (fun cdv A outer s H vs Q E hr h => ?_)
  · obtain ⟨p, l, c, rfl, _⟩ := h; rfl
  · obtain ⟨p, l, c, rfl, hP, hc, q⟩ := h
    refine ⟨_, (pss_cons (ps_set (i := 2) sc_law_book_messages.nd rfl (.inl rfl) (pe_call (ok_law_draw T) (hr.mono (by decide)) (by rfl) T.law_draw.g T.law_draw.F.kp T.law_draw.b .nil pass0 (pa_cons (pv 0) (pa_cons pe_int pa_nil))))
      (C8.pss_cut (ps_set (i := 3) sc_law_book_messages.nd rfl (.inl rfl) (pe_ix ix_list (pe_lst (pa_cons (pv 1) (pa_cons (pv 1) (pa_cons (pe_callB (call_min2 rfl) (by rfl) T.n_min (by decide +kernel) (pa_cons (pe_op op_add (pv 1) pe_int) (pa_cons pe_int pa_nil))) (pa_cons pe_int pa_nil))))) (pv 2) (fun _ _ => rfl)))
      (pss_cons (ps_par (i := 4) (j := 5) (by rfl) sc_law_book_messages.nd rfl rfl (by decide) rfl rfl (pa_cons (pe_listRg rfl (by rfl) T.n_list (prg_1 (by rfl) T.n_range (pv 3))) (pa_cons (pe_lst pa_nil) pa_nil)) (by rfl))
      (pss_cons (ps_for PassesOwn.never rfl (pi_range1 (by rfl) T.n_range (pa_cons (pv 1) pa_nil)) (pg_name (i := 6) sc_law_book_messages.nd rfl (.inl rfl))
        (pss_one (ps_expr (pe_bm PySem.F.plainAttrs_list PySem.F.slot_list_append PySem.F.type_list_append mt_append (pv 5) (pa_cons (pe_bm PySem.F.plainAttrs_list PySem.F.slot_list_pop PySem.F.type_list_pop mt_popAt (pv 4) (pa_cons (pe_mid (pe_ifExp (pt_cmpR op_lt (pv 2) pe_int (nomark _)) (pe_call (ok_law_draw T) (hr.mono (by decide)) (by rfl) T.law_draw.g T.law_draw.F.kp T.law_draw.b .nil pass0 (pa_cons (pv 0) (pa_cons (pe_callB call_len_seq (by rfl) T.n_len PySem.boot_len (pa_cons (pv 4) pa_nil)) pa_nil))) (pe_op op_sub (pe_op op_sub (pe_callB call_len_seq (by rfl) T.n_len PySem.boot_len (pa_cons (pv 4) pa_nil)) pe_int) (pe_call (ok_law_draw T) (hr.mono (by decide)) (by rfl) T.law_draw.g T.law_draw.F.kp T.law_draw.b .nil pass0 (pa_cons (pv 0) (pa_cons pe_int pa_nil)))))) pa_nil)) pa_nil)))))
      (pss_one (ps_ret (pe_callB cr_sorted (by rfl) T.n_sorted (by decide +kernel) (pa_cons (pv 5) pa_nil)))))))), ?_⟩
    -- way
    refine ⟨_, rfl, p, l, 4, rfl, hP, by decide, by decide, fun r H1 r0 r1 P1 e1 => ?_⟩
    -- top
    refine ⟨fun σ H' => ∃ top : Nat, σ = [some (.ref p), some (.int c), some (.int r), some (.int top), none, none, none] ∧ c ≤ top ∧ top ≤ 100 ∧ (r < 3 ∨ top = 100) ∧ PoolAt H' p l ∧ Ext [p, l] H H', ?_, ?_⟩
    · refine ⟨_, rfl, _, rfl, _, rfl, _, _, rfl, rfl, _, _, rfl, (by show 4 ≤ sizeLine; decide), fun d hd => ?_⟩
      have e2 : Ext [] H1 (upd H1 d (.lst [.int c, .int c, .int (if (6 : Int) < (c : Int) + 2 then 6 else (c : Int) + 2), .int 100])) := .new hd
      have m : ∃ t : Nat, (if (6 : Int) < (c : Int) + 2 then 6 else (c : Int) + 2) = t ∧ c ≤ t ∧ t ≤ 100 := by
        by_cases h : (6 : Int) < (c : Int) + 2
        · rw [if_pos h]; exact ⟨6, rfl, hc, by decide⟩
        · rw [if_neg h]; exact ⟨c + 2, by simp, by omega, by omega⟩
      obtain ⟨t, ht, t1, t2⟩ := m
      have four : r = 0 ∨ r = 1 ∨ r = 2 ∨ r = 3 := by omega
      have pe := P1.ext0 e2
      have ee := e1.trans e2.weak
      rcases four with rfl | rfl | rfl | rfl
      · exact ⟨_, rfl, d, _, _, _, rfl, rfl, .of upd_same, atI_nat (j := 0) rfl, c, rfl, Nat.le_refl _, by omega, .inl (by decide), pe, ee⟩
      · exact ⟨_, rfl, d, _, _, _, rfl, rfl, .of upd_same, atI_nat (j := 1) rfl, c, rfl, Nat.le_refl _, by omega, .inl (by decide), pe, ee⟩
      · exact ⟨_, rfl, d, _, _, _, rfl, rfl, .of upd_same, atI_nat (j := 2) rfl, t, by rw [ht]; rfl, t1, t2, .inl (by decide), pe, ee⟩
      · exact ⟨_, rfl, d, _, _, _, rfl, rfl, .of upd_same, atI_nat (j := 3) rfl, 100, rfl, by omega, Nat.le_refl _, .inr rfl, pe, ee⟩
    · rintro σ H2 ⟨top, rfl, c1, c2, c3, P2, e2⟩
      -- left, found
      refine ⟨_, rfl, _, rfl, RgOk.of_le (by omega) (by omega) (by omega) (by omega), fun lf hlf => ⟨Nat.zero_le _, fun fd hfd => ⟨_, _, rfl, ?_⟩⟩⟩
      rw [rgV_nV] at hfd ⊢
      have e3 : Ext [] H2 (upd H2 lf (.lst ((List.range top).map nV))) := .new hlf
      have e4 := e3.trans (Ext.new (L := []) (o := .lst []) hfd)
      have nlf : fd ≠ lf := fun z => by rw [z, upd_same] at hfd; cases hfd
      have h2p : H2 p ≠ none := by obtain ⟨_, _, _, _, a, _⟩ := P2; rw [a]; simp
      have h2l : H2 l ≠ none := by obtain ⟨_, _, _, _, _, a, _⟩ := P2; rw [a]; simp
      have n1 : lf ≠ p := fun z => h2p (z ▸ hlf)
      have n2 : lf ≠ l := fun z => h2l (z ▸ hlf)
      have hfd2 := e3.free hfd
      have n3 : fd ≠ p := fun z => h2p (z ▸ hfd2)
      have n4 : fd ≠ l := fun z => h2l (z ▸ hfd2)
      have f1 : H lf = none := e2.free2 hlf (off2 n1 n2)
      have f2 : H fd = none := e2.free2 hfd2 (off2 n3 n4)
      -- the loop
      refine ⟨_, rfl, _, rfl, by omega, by omega, for_range (lo := 0) (n := _) (fun i σ H' => ∃ (L F : List Nat) (y : Option V), σ = [some (.ref p), some (.int c), some (.int r), some (.int top), some (.ref lf), some (.ref fd), y] ∧ H' lf = some (.lst (L.map nV)) ∧ H' fd = some (.lst (F.map nV)) ∧ (F ++ L).Perm (List.range top) ∧ F.length = i ∧ PoolAt H' p l ∧ Ext [p, l] H H')
        ⟨List.range top, [], _, rfl, by rw [upd_ne nlf.symm, upd_same], upd_same, .refl _, rfl, P2.ext0 e4, e2.trans e4.weak⟩ ?_ ?_⟩
      · rintro i σ H' hi ⟨L, F, y, rfl, hL, hF, hperm, hFl, P', e'⟩
        have hi : i < c := by have : ((c : Int)).toNat = c := Int.toNat_natCast _; omega
        have tot : F.length + L.length = top := by have := hperm.length_eq; simpa using this
        have Lpos : 0 < L.length := by omega
        refine ⟨_, rfl, .inl ⟨rfl, _, .of hF⟩, _, rfl, .inl ⟨rfl, _, .of hL⟩, ?_⟩
        -- the index
        refine ⟨fun v H3 => ∃ k : Nat, v = .int k ∧ k < L.length ∧ H3 lf = some (.lst (L.map nV)) ∧ H3 fd = some (.lst (F.map nV)) ∧ PoolAt H3 p l ∧ Ext [p, l] H H3, ?_, ?_⟩
        · refine ⟨_, rfl, _, _, rfl, rfl, _, rfl, ite2 (fun z => ?_) (fun z => ?_)⟩
          · refine ⟨_, rfl, _, rfl, lf, _, rfl, .inl (.of hL), p, l, _, rfl, P', by rw [List.length_map]; omega, by rw [List.length_map]; omega, fun k H3 k0 k1 P3 e3' => ?_⟩
            rw [List.length_map] at k1
            exact ⟨k.toNat, by rw [Int.toNat_of_nonneg k0], by omega, e3' _ _ (off2 n1 n2) hL, e3' _ _ (off2 n3 n4) hF, P3, e'.trans e3'⟩
          · have z : ¬ r < 3 := fun w => z (decide_eq_true w)
            have t100 : top = 100 := by rcases c3 with c3 | c3; exact absurd c3 z; exact c3
            refine ⟨_, rfl, lf, _, rfl, .inl (.of hL), _, _, rfl, rfl, _, rfl, p, l, 3, rfl, P', by decide, by decide, fun k H3 k0 k1 P3 e3' => ?_⟩
            refine ⟨_, _, rfl, rfl, (L.length - 1 - k.toNat), ?_, by omega, e3' _ _ (off2 n1 n2) hL, e3' _ _ (off2 n3 n4) hF, P3, e'.trans e3'⟩
            have e5 : ((L.map nV).length : Int) - 1 - k = ((L.length - 1 - k.toNat : Nat) : Int) := by
              rw [List.length_map]
              omega
            exact congrArg V.int e5
        · rintro v H3 ⟨k, rfl, hk, hL3, hF3, P3, e3'⟩
          have hy : L[k]? = some L[k] := List.getElem?_eq_getElem hk
          generalize L[k] = y at hy
          refine ⟨lf, _, _, k, nV y, rfl, rfl, hL3, by omega, by omega, by rw [List.length_map]; exact seqAt hk, at_map hy, ?_⟩
          have el : (L.map nV).eraseIdx k = (L.eraseIdx k).map nV := eraseIdx_nV nV L k
          rw [el]
          have hF4 : upd H3 lf (.lst ((L.eraseIdx k).map nV)) fd = some (.lst (F.map nV)) := by rw [upd_ne nlf]; exact hF3
          refine ⟨fd, _, _, rfl, rfl, hF4, by rw [List.length_map]; exact small1000 (by omega), L.eraseIdx k, F ++ [y], _, rfl, by rw [upd_ne nlf.symm, upd_same], ?_, ?_, ?_, ?_, ?_⟩
          · rw [upd_same, List.map_append]; rfl
          · rw [List.append_assoc]
            exact (List.Perm.append_left F (erase_perm L k y hy)).trans hperm
          · rw [List.length_append, hFl]; rfl
          · refine P3.ext (L := [lf, fd]) ((Ext.wr (by simp)).trans (.wr (by simp))) ?_ ?_
            · simp [n1.symm, n3.symm]
            · simp [n2.symm, n4.symm]
          · exact (e3'.put' f1).put' f2
      · rintro σ H' ⟨L, F, y, rfl, hL, hF, hperm, hFl, P', e'⟩
        rw [Int.toNat_natCast] at hFl
        have nd : F.Nodup := (List.nodup_append.mp (hperm.nodup_iff.mpr List.nodup_range)).1
        refine ⟨_, rfl, fd, F.map (fun n : Nat => (n : Int)), rfl, .of (by rw [← map_nV_int]; exact hF), by rw [List.length_map]; omega, fun ns t perm rise ht => ?_⟩
        obtain ⟨ms, e1', e2', e3'⟩ := sorted_nats nd perm rise
        rw [e1']
        have ft : H t = none := e'.free2 ht (off2 (fun z => ?_) (fun z => ?_))
        · refine q ms t _ e3' (by rw [e2'.length_eq]; exact hFl) (fun m hm => ?_) upd_same ft (P'.ext (L := [t]) (.wr (by simp)) ?_ ?_) (e'.put' ft)
          · have h1 := hperm.mem_iff.mp (List.mem_append_left L (e2'.mem_iff.mp hm))
            have := List.mem_range.mp h1
            omega
          · obtain ⟨_, _, _, _, a, _⟩ := P'
            simp
            exact fun z => by rw [z, ht] at a; cases a
          · obtain ⟨_, _, _, _, _, a, _⟩ := P'
            simp
            exact fun z => by rw [z, ht] at a; cases a
        · obtain ⟨_, _, _, _, a, _⟩ := P'
          rw [← z, ht] at a; cases a
        · obtain ⟨_, _, _, _, _, a, _⟩ := P'
          rw [← z, ht] at a; cases a
end
end Nv
set_option Elab.async false
set_option linter.all false
set_option maxRecDepth 100000
namespace Nv
open PySem PySem.Spec PyProof.Rows L2
section
variable {P : Program} {w : World} {K : PySem.W.Frag} {mg : Str → Option Value} {base : Heap}
/-! ### the law's books: drawn -/
theorem PoolAt.off {H : Hp} {p l x : Addr} (h : PoolAt H p l) (hx : H x = none) : x ≠ p ∧ x ≠ l := by
  obtain ⟨_, _, _, _, a, b, _⟩ := h
  refine ⟨fun z => ?_, fun z => ?_⟩
  · rw [z, a] at hx
    cases hx
  · rw [z, b] at hx
    cases hx
theorem PoolAt.put {H : Hp} {p l x : Addr} {o : HO} (h : PoolAt H p l) (h1 : x ≠ p) (h2 : x ≠ l) : PoolAt (upd H x o) p l := h.ext (L := [x]) (.wr (by simp)) (by simp; exact h1.symm) (by simp; exact h2.symm)
structure StD (n m : Nat) (s : State) : Prop where
  few : s.length ≤ m
  rise : (s.map (·.1)).Pairwise (· < ·)
  msg : ∀ q ∈ s, q.1 ≤ 99
  to : ∀ q ∈ s, q.2 < n
theorem StD.set {n m : Nat} {s : State} (h : StD n m s) {k : Nat} {q : Nat × Nat} (hq : s[k]? = some q) {t : Nat} (ht : t < n) : StD n m (s.set k (q.1, t)) := by
  have hm := List.mem_of_getElem? hq
  have e : (s.set k (q.1, t)).map (·.1) = s.map (·.1) := by
    rw [List.map_set]
    refine List.ext_getElem? fun i => ?_
    by_cases hi : k = i
    · subst hi
      have hk : k < (s.map (·.1)).length := by
        rw [List.length_map]
        exact (List.getElem?_eq_some_iff.mp hq).1
      rw [List.getElem?_set_self hk, List.getElem?_map, hq]
      rfl
    · rw [List.getElem?_set_ne hi]
  refine ⟨by rw [List.length_set]; exact h.few, by rw [e]; exact h.rise, fun z hz => ?_, fun z hz => ?_⟩
  · rcases List.mem_or_eq_of_mem_set hz with hz | rfl
    · exact h.msg z hz
    · exact h.msg q hm
  · rcases List.mem_or_eq_of_mem_set hz with hz | rfl
    · exact h.to z hz
    · exact ht
theorem sc_law_book_drawn : FnScope ["pool", "states", "most", "size", "way", "moves", "state", "count", "told", "message", "to", "at"] ["pool", "states", "most"] (defScope s_law_book_drawn) := ⟨rfl, rfl, rfl, by decide +kernel, rfl, by decide +kernel, by decide +kernel⟩
def sp_law_book_drawn (K : PySem.W.Frag) : Sp := fun vs H Q _ => ∃ (p l : Addr) (S M : Nat), vs = [.ref p, .int S, .int M] ∧ PoolAt H p l ∧ 1 ≤ S ∧ S ≤ 8 ∧ M ≤ 5 ∧ ∀ (b : Book) (v : V) (H' : Hp), OkB b → b.length ≤ S → (∀ s ∈ b, s.length ≤ M) → BkV K H' v b → PoolAt H' p l → Ext [p, l] H H' → Q v H'
theorem ok_law_book_drawn (T : Tx K mg) : FnOk P w K mg base CX0 3 T.law_book_drawn.f T.law_book_drawn.fd ["pool", "states", "most"] (sp_law_book_drawn K) := by
  refine T.law_book_drawn.F.ok sc_law_book_drawn (fun vs H Q E h => ?_) (fun cdv A outer s H vs Q E hr h => ?_)
  · obtain ⟨p, l, S, M, rfl, _⟩ := h; rfl
  · obtain ⟨p, l, S, M, rfl, hP, hS1, hS8, hM, q⟩ := h
    refine ⟨_, (pss_cons (ps_par3 (i := 3) (j := 4) (l := 5) rfl sc_law_book_drawn.nd rfl rfl rfl (by decide) (by decide) (by decide) rfl rfl rfl (pa_cons (pe_op op_add pe_int (pe_call (ok_law_draw T) (hr.mono (by decide)) (by rfl) T.law_draw.g T.law_draw.F.kp T.law_draw.b .nil pass0 (pa_cons (pv 0) (pa_cons (pv 1) pa_nil)))) (pa_cons (pe_call (ok_law_draw T) (hr.mono (by decide)) (by rfl) T.law_draw.g T.law_draw.F.kp T.law_draw.b .nil pass0 (pa_cons (pv 0) (pa_cons pe_int pa_nil))) (pa_cons (pe_lst pa_nil) pa_nil))) (by rfl))
      (pss_cons (ps_for PassesOwn.never rfl (pi_range1 (by rfl) T.n_range (pa_cons (pv 3) pa_nil)) (pg_name (i := 6) sc_law_book_drawn.nd rfl (.inl rfl))
        (pss_cons (ps_set (i := 7) sc_law_book_drawn.nd rfl (.inl rfl) (pe_call (ok_law_pick T) (hr.mono (by decide)) (by rfl) T.law_pick.g T.law_pick.F.kp T.law_pick.b .nil pass0 (pa_cons (pv 0) (pa_cons (pe_lst (pa_cons pe_int (pa_cons pe_int (pa_cons pe_int (pa_cons pe_int (pa_cons (pe_callB (call_min2 rfl) (by rfl) T.n_min (by decide +kernel) (pa_cons pe_int (pa_cons (pv 2) pa_nil))) (pa_cons (pe_call (ok_law_draw T) (hr.mono (by decide)) (by rfl) T.law_draw.g T.law_draw.F.kp T.law_draw.b .nil pass0 (pa_cons (pv 0) (pa_cons (pe_op op_add (pv 2) pe_int) pa_nil))) pa_nil))))))) pa_nil))))
        (C8.pss_cut (ps_if (PW.pt (pw_and (pt_cmpR op_gt (pv 4) pe_int (nomark _)) (pw_and1 (pt_cmpR op_eq (pv 6) (pe_op op_sub (pv 3) pe_int) (nomark _)))))
          (pss_one (ps_set (i := 7) sc_law_book_drawn.nd rfl (.inl rfl) pe_int))
          pss_nil)
        (pss_cons (ps_set (i := 8) sc_law_book_drawn.nd rfl (.inl rfl) (pe_lst pa_nil))
        (pss_cons (ps_for PassesOwn.never rfl (pi_list (pe_call (ok_law_book_messages T) (hr.mono (by decide)) (by rfl) T.law_book_messages.g T.law_book_messages.F.kp T.law_book_messages.b .nil pass0 (pa_cons (pv 0) (pa_cons (pe_callB (call_min2 rfl) (by rfl) T.n_min (by decide +kernel) (pa_cons (pv 7) (pa_cons (pv 2) pa_nil))) pa_nil)))) (pg_name (i := 9) sc_law_book_drawn.nd rfl (.inl rfl))
          (pss_cons (ps_set (i := 10) sc_law_book_drawn.nd rfl (.inl rfl) (pe_call (ok_law_draw T) (hr.mono (by decide)) (by rfl) T.law_draw.g T.law_draw.F.kp T.law_draw.b .nil pass0 (pa_cons (pv 0) (pa_cons (pv 3) pa_nil))))
          (C8.pss_cut (ps_if (PW.pt (pw_and (pt_cmpR op_gt (pv 4) pe_int (nomark _)) (pw_and1 (pt_cmpR op_lt (pv 6) (pe_op op_sub (pv 3) pe_int) (nomark _)))))
            (pss_one (ps_set (i := 10) sc_law_book_drawn.nd rfl (.inl rfl) (pe_op op_add (pe_op op_add (pv 6) pe_int) (pe_call (ok_law_draw T) (hr.mono (by decide)) (by rfl) T.law_draw.g T.law_draw.F.kp T.law_draw.b .nil pass0 (pa_cons (pv 0) (pa_cons (pe_op op_sub (pe_op op_sub (pv 3) pe_int) (pv 6)) pa_nil))))))
            pss_nil)
          (pss_one (ps_expr (pe_bm PySem.F.plainAttrs_list PySem.F.slot_list_append PySem.F.type_list_append mt_append (pv 8) (pa_cons (pe_tup (pa_cons (pv 9) (pa_cons (pv 10) pa_nil))) pa_nil)))))))
        (C8.pss_cut (ps_if (PW.pt (pw_and (pt_cmpR op_gt (pv 4) pe_int (nomark _)) (pw_and1 (pt_cmpR (op_neD (hr.units)) (pv 8) (pe_lst pa_nil) (nomark _)))))
          (pss_cons (ps_set (i := 11) sc_law_book_drawn.nd rfl (.inl rfl) (pe_call (ok_law_draw T) (hr.mono (by decide)) (by rfl) T.law_draw.g T.law_draw.F.kp T.law_draw.b .nil pass0 (pa_cons (pv 0) (pa_cons (pe_callB call_len_seq (by rfl) T.n_len PySem.boot_len (pa_cons (pv 8) pa_nil)) pa_nil))))
          (pss_one (ps_asg (pe_tup (pa_cons (pe_ix ix_tup (pe_ix ix_list (pv 8) (pv 11) (fun _ _ => rfl)) pe_int (fun _ _ => rfl)) (pa_cons (pe_mid (pe_ifExp (pt_cmpR op_lt (pv 4) pe_int (nomark _)) (pe_op op_mod (pe_callTy call_int1 (by rfl) T.n_int (by decide +kernel) (pa_cons (pe_op op_add (pv 6) pe_int) pa_nil)) (pv 3)) (pe_callB (call_min2 rfl) (by rfl) T.n_min (by decide +kernel) (pa_cons (pe_op op_add (pv 6) pe_int) (pa_cons (pe_op op_sub (pv 3) pe_int) pa_nil))))) pa_nil))) (pg_sub (pv 8) (pv 11) set_list))))
          pss_nil)
        (pss_one (ps_expr (pe_bm PySem.F.plainAttrs_list PySem.F.slot_list_append PySem.F.type_list_append mt_append (pv 5) (pa_cons (pv 8) pa_nil))))))))))
      (pss_one (ps_ret (pe_call (ok_law_book_meeting T) (hr.mono (by decide)) (by rfl) T.law_book_meeting.g T.law_book_meeting.F.kp T.law_book_meeting.b .nil pass0 (pa_cons (pv 5) pa_nil)))))), ?_⟩
    -- size, way, moves
    refine ⟨_, rfl, _, rfl, p, l, _, rfl, hP, by omega, by omega, fun r H1 r0 r1 P1 e1 => ⟨_, _, rfl, rfl, ?_⟩⟩
    refine ⟨_, rfl, p, l, 6, rfl, P1, by decide, by decide, fun way H2 w0 w1 P2 e2 => ⟨Nat.zero_le _, fun mv hmv => ⟨_, _, _, rfl, ?_⟩⟩⟩
    obtain ⟨n, hn⟩ : ∃ n : Nat, 1 + r = (n : Int) := ⟨(1 + r).toNat, by omega⟩
    have hn1 : 1 ≤ n := by omega
    have hnS : n ≤ S := by omega
    show _
    simp only [hn]
    obtain ⟨mp, ml⟩ := P2.off hmv
    have fmv : H mv = none := (e1.trans e2).free2 hmv (off2 mp ml)
    -- the loop
    refine ⟨_, rfl, _, rfl, by omega, by omega, for_range (lo := 0) (n := _) (fun i σ H' => ∃ (vs : List V) (b : Book) (y6 y7 y8 y9 y10 y11 : Option V), σ = [some (.ref p), some (.int S), some (.int M), some (.int n), some (.int way), some (.ref mv), y6, y7, y8, y9, y10, y11] ∧ b.length = i ∧
      H' mv = some (.lst vs) ∧ Paired (LsN K H' [p, l, mv]) vs b ∧ (∀ s ∈ b, StD n M s) ∧ PoolAt H' p l ∧ Ext [p, l] H H')
      ⟨[], [], _, _, _, _, _, _, rfl, rfl, upd_same, .nil, (fun s z => nomatch z), P2.put mp ml, (e1.trans e2).put' fmv⟩ ?_ ?_⟩
    · rintro i σ H' hi ⟨vs, b, y6, y7, y8, y9, y10, y11, rfl, hbl, hv, hpd, hst, P', e'⟩
      have hi : i < n := by have : ((n : Int)).toNat = n := Int.toNat_natCast _; omega
      simp only [Int.zero_add]
      -- count
      refine ⟨_, rfl, _, rfl, _, _, rfl, _, rfl, _, rfl, _, _, rfl, rfl, p, l, _, rfl, P', by omega, by omega, fun c0 H3 c00 c01 P3 e3 => ?_⟩
      refine ⟨(by show 6 ≤ sizeLine; decide), fun t ht => ?_⟩
      obtain ⟨tp, tl⟩ := P3.off ht
      refine ⟨p, l, t, _, rfl, P3.put tp tl, .of upd_same, tp, tl, (by show 0 < 6; decide), (by show 6 < 1000; decide), fun k v H4 hk P4 e4 => ?_⟩
      have hc : ∃ c : Nat, v = .int c ∧ c ≤ 5 := by
        have six : k < 6 := (List.getElem?_eq_some_iff.mp hk).1
        have : k = 0 ∨ k = 1 ∨ k = 2 ∨ k = 3 ∨ k = 4 ∨ k = 5 := by omega
        rcases this with rfl | rfl | rfl | rfl | rfl | rfl
        · exact ⟨1, (Option.some.inj hk).symm, by decide⟩
        · exact ⟨1, (Option.some.inj hk).symm, by decide⟩
        · exact ⟨2, (Option.some.inj hk).symm, by decide⟩
        · exact ⟨2, (Option.some.inj hk).symm, by decide⟩
        · have z := (Option.some.inj hk).symm
          by_cases hm : (M : Int) < 2
          · rw [if_pos hm] at z; exact ⟨M, z, by omega⟩
          · rw [if_neg hm] at z; exact ⟨2, z, by decide⟩
        · exact ⟨c0.toNat, by rw [(Option.some.inj hk).symm, Int.toNat_of_nonneg c00], by omega⟩
      obtain ⟨c, rfl, hc5⟩ := hc
      have e5 : Ext [p, l] H' H4 := (e3.trans (Ext.weak (.new ht))).trans e4
      have hpd4 : Paired (LsN K H4 [p, l, mv]) vs b := Paired.imp hpd fun _ _ z => z.ext e5 (by simp) P'.lsts
      have hv4 := e5 _ _ (off2 mp ml) hv
      have e6 := e'.trans e5
      generalize hH : H4 = H5 at *
      clear hH e5 e4 e3 hk ht P' hv hpd P3
      -- if way > 3 and state == size - 1
      refine ⟨fun σ H' => ∃ c : Nat, c ≤ 5 ∧ H' = H5 ∧ σ = [some (.ref p), some (.int S), some (.int M), some (.int n), some (.int way), some (.ref mv), some (.int i), some (.int c), y8, y9, y10, y11], ?_, ?_⟩
      · refine ⟨_, rfl, _, _, rfl, rfl, _, rfl, ite2 (fun z => ?_) (fun z => iteF ⟨c, hc5, rfl, rfl⟩)⟩
        refine ⟨_, rfl, _, rfl, _, _, rfl, rfl, rfl, _, rfl, ite2 (fun z => ?_) (fun z => ?_)⟩
        · exact ⟨0, by decide, rfl, rfl⟩
        · exact ⟨c, hc5, rfl, rfl⟩
      · rintro σ Hb ⟨c, hc5, rfl, rfl⟩
        -- told = []
        refine ⟨Nat.zero_le _, fun td htd => ?_⟩
        obtain ⟨tdp, tdl⟩ := P4.off htd
        have tdmv : td ≠ mv := fun z => by rw [z, hv4] at htd; cases htd
        have b0 : Ext [p, l] Hb (upd Hb td (.lst [])) := Ext.weak (.new htd)
        -- for message in ..
        have hmin : ∃ d : Nat, (if (M : Int) < (c : Int) then (M : Int) else (c : Int)) = d ∧ d ≤ M ∧ d ≤ 5 := by
          by_cases hm : (M : Int) < (c : Int)
          · rw [if_pos hm]; exact ⟨M, rfl, Nat.le_refl _, hM⟩
          · rw [if_neg hm]; exact ⟨c, rfl, by omega, hc5⟩
        obtain ⟨d, hd, hdM, hd5⟩ := hmin
        refine ⟨_, rfl, _, rfl, _, rfl, _, _, rfl, p, l, d, by rw [hd]; rfl, P4.put tdp tdl, by omega, fun ms t H6 m1 m2 m3 ht tfree P6 e6' => ?_⟩
        have b1 := b0.trans e6'
        have ttd : t ≠ td := fun z => by rw [z, upd_same] at tfree; cases tfree
        obtain ⟨ttp, ttl⟩ := (P4.put (o := .lst []) tdp tdl).off tfree
        have htd6 : H6 td = some (.lst []) := e6' _ _ (off2 tdp tdl) upd_same
        refine ⟨t, rfl, ⟨_, .of ht⟩, for_list (K := K) (a := t) (xs := ms.map nV) (fun k σ H' => ∃ (ps : List Addr) (tl : State) (y9 y10 : Option V), σ = [some (.ref p), some (.int S), some (.int M), some (.int n), some (.int way), some (.ref mv), some (.int i), some (.int c), some (.ref td), y9, y10, y11] ∧
          H' td = some (.lst (ps.map V.ref)) ∧ Paired (MvV K H') ps tl ∧ tl.map (·.1) = ms.take k ∧ (∀ z ∈ tl, z.2 < n) ∧ H' t = some (.lst (ms.map nV)) ∧ PoolAt H' p l ∧ Ext [p, l] Hb H')
          ⟨[], [], _, _, rfl, htd6, .nil, by simp, (fun z hz => nomatch hz), ht, P6, b1⟩ (fun k σ H' _ ⟨_, _, _, _, _, _, _, _, _, h, _⟩ => .of h) ?_ ?_⟩
        · rintro k v σ H' hv ⟨ps, tl, y9, y10, rfl, htd', hps, hmap, hto, ht', P', e8⟩
          obtain ⟨m, hm, rfl⟩ := map_at hv
          have ntd : td ∉ [p, l] := off2 tdp tdl
          have nt : t ∉ [p, l] := off2 ttp ttl
          refine ⟨_, rfl, _, rfl, p, l, _, rfl, P', by omega, by omega, fun t0 H7 t00 t01 P7 e7 => ?_⟩
          refine ⟨fun σ H8 => ∃ u : Nat, u < n ∧ σ = [some (.ref p), some (.int S), some (.int M), some (.int n), some (.int way), some (.ref mv), some (.int i), some (.int c), some (.ref td), some (nV m), some (.int u), y11] ∧ PoolAt H8 p l ∧ Ext [p, l] H7 H8, ?_, ?_⟩
          · have stay : ∃ u : Nat, u < n ∧ ([some (.ref p), some (.int S), some (.int M), some (.int n), some (.int way), some (.ref mv), some (.int i), some (.int c), some (.ref td), some (nV m), some (.int t0), y11] : L2.St) = [some (.ref p), some (.int S), some (.int M), some (.int n), some (.int way), some (.ref mv), some (.int i), some (.int c), some (.ref td), some (nV m), some (.int u), y11] ∧ PoolAt H7 p l ∧ Ext [p, l] H7 H7 :=
              ⟨t0.toNat, by omega, by rw [Int.toNat_of_nonneg t00], P7, .refl⟩
            refine ⟨_, rfl, _, _, rfl, rfl, _, rfl, ite2 (fun z => ?_) (fun z => iteF stay)⟩
            refine ⟨_, rfl, _, rfl, _, _, rfl, rfl, _, _, rfl, rfl, _, rfl, ite2 (fun z2 => ?_) (fun z2 => stay)⟩
            have z2 := of_decide_eq_true z2
            refine ⟨_, rfl, _, _, rfl, rfl, _, rfl, _, rfl, _, _, rfl, rfl, _, rfl, _, _, rfl, rfl, p, l, _, rfl, P7, by omega, by omega, fun r8 H8 r80 r81 P8 e8 => ⟨_, _, rfl, rfl, ?_⟩⟩
            have eu : (i : Int) + 1 + r8 = ((i + 1 + r8.toNat : Nat) : Int) := by omega
            exact ⟨i + 1 + r8.toNat, by omega, congrArg (fun z : Int => ([some (.ref p), some (.int S), some (.int M), some (.int n), some (.int way), some (.ref mv), some (.int i), some (.int c), some (.ref td), some (nV m), some (.int z), y11] : L2.St)) eu, P8, e8⟩
          · rintro σ H8 ⟨u, hu, rfl, P8, e9⟩
            have e10 := e7.trans e9
            have htd8 := e10 _ _ ntd htd'
            have ht8 := e10 _ _ nt ht'
            have hps8 : Paired (MvV K H8) ps tl := Paired.imp hps fun _ _ z => e10.tup P'.lsts z
            refine ⟨_, rfl, .inl ⟨rfl, _, .of htd8⟩, _, rfl, _, rfl, (by show 2 ≤ sizeLine; decide), fun nt' hnt => ?_⟩
            have e11 : Ext [] H8 (upd H8 nt' (.tup [nV m, .int u])) := .new hnt
            have htd9 := e11.at htd8 (by simp)
            obtain ⟨ntp, ntl⟩ := P8.off hnt
            have tll : tl.length ≤ 6 := by
              have := congrArg List.length hmap
              rw [List.length_map, List.length_take] at this
              omega
            refine ⟨td, _, _, rfl, rfl, htd9, by rw [List.length_map, Paired.len hps]; exact small1000 (by omega), ps ++ [nt'], tl ++ [(m, u)], _, _, rfl, by rw [upd_same, List.map_append]; rfl, ?_, ?_, fun z hz => ?_, ?_, ?_, ?_⟩
            · refine Paired.snoc ?_ (Paired.imp hps8 fun _ _ z => (z.ext0 e11).put htd9)
              exact MvV.put (m := (m, u)) (.of upd_same) htd9
            · rw [List.take_add_one, hm, List.map_append, hmap]
              rfl
            · rcases List.mem_append.mp hz with hz | hz
              · exact hto z hz
              · obtain rfl := List.mem_singleton.mp hz
                exact hu
            · rw [upd_ne ttd]
              exact e11.at ht8 (by simp)
            · exact (P8.put ntp ntl).put tdp tdl
            · exact ((e8.trans e10).trans e11.weak).put' htd
        · rintro σ H7 ⟨ps, tl, y9, y10, rfl, htd7, hps, hmap, hto, ht7, P7, e7⟩
          rw [List.length_map, List.take_length] at hmap
          have tll : tl.length = d := by
            have := congrArg List.length hmap
            rw [List.length_map] at this
            omega
          have sd : StD n M tl := ⟨by omega, by rw [hmap]; exact m1, fun z hz => m3 _ (by rw [← hmap]; exact List.mem_map.mpr ⟨z, hz, rfl⟩), hto⟩
          refine ⟨fun σ H8 => ∃ (ps : List Addr) (tl : State) (y9 y10 y11 : Option V), σ = [some (.ref p), some (.int S), some (.int M), some (.int n), some (.int way), some (.ref mv), some (.int i), some (.int c), some (.ref td), y9, y10, y11] ∧
            H8 td = some (.lst (ps.map V.ref)) ∧ Paired (MvV K H8) ps tl ∧ StD n M tl ∧ PoolAt H8 p l ∧ Ext [p, l] Hb H8, ?_, ?_⟩
          · refine ⟨_, rfl, _, _, rfl, rfl, _, rfl, ite2 (fun z => ?_) (fun z => iteF ⟨ps, tl, _, _, _, rfl, htd7, hps, sd, P7, e7⟩)⟩
            refine ⟨_, rfl, Nat.zero_le _, fun x hx => ?_⟩
            have e8 : Ext [] H7 (upd H7 x (.lst [])) := .new hx
            have htd8 := e8.at htd7 (by simp)
            have hps8 : Paired (MvV K (upd H7 x (.lst []))) ps tl := Paired.imp hps fun _ _ z => z.ext0 e8
            have P8 := P7.ext0 e8
            refine ⟨_, _, .lst (.of htd8) (dp_mvs hps8), .lst (.of upd_same) .nil, shaped_mvs _, by decide, _, rfl, ?_⟩
            rw [eqv_mvs_nil]
            by_cases ee : tl = []
            · rw [decide_eq_true ee]
              exact iteF ⟨ps, tl, _, _, _, rfl, htd8, hps8, sd, P8, e7.trans e8.weak⟩
            · rw [decide_eq_false ee]
              have plen := Paired.len hps
              have tpos : 0 < tl.length := List.length_pos_iff.mpr ee
              refine iteT ⟨_, rfl, _, rfl, td, _, rfl, .inl (.of htd8), p, l, _, rfl, P8, by rw [List.length_map]; omega, by rw [List.length_map]; omega, fun k H9 k0 k1 P9 e9 => ?_⟩
              rw [List.length_map] at k1
              obtain ⟨k, rfl⟩ : ∃ j : Nat, k = (j : Int) := ⟨k.toNat, by omega⟩
              have hk : k < tl.length := by omega
              have hq : tl[k]? = some tl[k] := List.getElem?_eq_getElem hk
              generalize tl[k] = qq at hq
              have htd9 := e9 _ _ (off2 tdp tdl) htd8
              have hps9 : Paired (MvV K H9) ps tl := Paired.imp hps8 fun _ _ z => e9.tup P8.lsts z
              obtain ⟨a, ha, haq⟩ := Paired.get hps9 hq
              refine ⟨_, rfl, _, rfl, td, _, _, _, rfl, rfl, .of htd9, atI_nat (at_map ha), a, _, _, _, rfl, rfl, haq, atI_nat (j := 0) rfl, ?_⟩
              refine ⟨fun v H' => H' = H9 ∧ ∃ u : Nat, u < n ∧ v = .int u, ?_, ?_⟩
              · refine ⟨_, rfl, _, _, rfl, rfl, _, rfl, ite2 (fun z => ?_) (fun z => ?_)⟩
                · refine ⟨_, rfl, _, _, rfl, rfl, .inl ⟨_, rfl, _, rfl, _, _, rfl, rfl, (by show (0 : Int) < n; omega), rfl, (((i : Int) + 1) % n).toNat, ?_, ?_⟩⟩
                  · have := Int.emod_lt_of_pos ((i : Int) + 1) (show (0 : Int) < n by omega)
                    have := Int.emod_nonneg ((i : Int) + 1) (show (n : Int) ≠ 0 by omega)
                    omega
                  · show V.int (((i : Int) + 1) % n) = _
                    rw [Int.toNat_of_nonneg (Int.emod_nonneg _ (by omega))]
                · refine ⟨_, rfl, _, _, rfl, rfl, _, rfl, _, _, rfl, rfl, _, _, rfl, rfl, ?_⟩
                  by_cases hm : (n : Int) - 1 < (i : Int) + 1
                  · rw [if_pos hm]
                    exact ⟨n - 1, by omega, congrArg V.int (by omega)⟩
                  · rw [if_neg hm]
                    exact ⟨i + 1, by omega, rfl⟩
              · rintro v H' ⟨rfl, u, hu, rfl⟩
                refine ⟨(by show 2 ≤ sizeLine; decide), fun nt hnt => ?_⟩
                have e10 : Ext [] H' (upd H' nt (.tup [.int qq.1, .int u])) := .new hnt
                have htd10 := e10.at htd9 (by simp)
                obtain ⟨ntp, ntl⟩ := P9.off hnt
                refine ⟨_, rfl, _, rfl, td, _, _, k, rfl, rfl, htd10, ixNat (by rw [List.length_map]; omega), ps.set k nt, tl.set k (qq.1, u), _, _, _, rfl, ?_, ?_, sd.set hq hu, (P9.put ntp ntl).put tdp tdl, ((((e7.trans e8.weak).trans e9).trans e10.weak)).put' htd⟩
                · rw [upd_same, List.map_set]
                · refine Paired.set ?_ k (Paired.imp hps9 fun _ _ z => (z.ext0 e10).put htd10)
                  exact MvV.put (m := (qq.1, u)) (.of upd_same) htd10
          · rintro σ H8 ⟨ps, tl, y9, y10, y11, rfl, htd8, hps8, sd8, P8, e8⟩
            have hmv8 := e8 _ _ (off2 mp ml) hv4
            have hpd8 : Paired (LsN K H8 [p, l, mv]) vs b := Paired.imp hpd4 fun _ _ z => z.ext e8 (by simp) P4.lsts
            have l3 : Lsts [mv] H8 := one_lst hmv8
            refine ⟨_, rfl, .inl ⟨rfl, _, .of hmv8⟩, _, rfl, mv, _, _, rfl, rfl, hmv8, by rw [Paired.len hpd8]; exact small1000 (by omega), vs ++ [.ref td], b ++ [tl], _, _, _, _, _, _, rfl, by rw [List.length_append, hbl]; rfl, upd_same, ?_, fun s hs => ?_, P8.put mp ml, (e6.trans e8).put' fmv⟩
            · refine Paired.snoc ⟨td, ps, rfl, ?_, by rw [upd_ne tdmv]; exact htd8, Paired.imp hps8 fun _ _ z => z.put hmv8⟩ (Paired.imp hpd8 fun _ _ z => z.ext (Y := [mv]) (.wr (by simp)) (by simp) l3)
              simp [tdp, tdl, tdmv]
            · rcases List.mem_append.mp hs with hs | hs
              · exact hst s hs
              · obtain rfl := List.mem_singleton.mp hs
                exact sd8
    · rintro σ H' ⟨vs, b, y6, y7, y8, y9, y10, y11, rfl, hbl, hv, hpd, hst, P', e'⟩
      rw [Int.toNat_natCast] at hbl
      have hlb : LbV K H' (.ref mv) b := ⟨mv, vs, rfl, hv, Paired.imp hpd fun _ _ z => z.ls⟩
      have sd : ∀ s, StD n M (mvs b s) := fun s => by
        by_cases hs : s < b.length
        · exact hst _ (mvs_mem hs)
        · rw [mvs_out (by omega)]
          exact ⟨Nat.zero_le _, .nil, (fun z hz => nomatch hz), fun z hz => nomatch hz⟩
      refine ⟨_, rfl, .ref mv, b, rfl, hlb, by omega, by omega, fun s => ⟨Nat.le_trans (sd s).few (by omega), fun z hz => by rw [hbl]; exact (sd s).to z hz⟩, fun F v H3 mt hbk e3 => ?_⟩
      have ok := mt.okB (by omega) fun s hs => ⟨Nat.le_trans (sd s).few hM, (sd s).rise, (sd s).msg⟩
      refine q _ v _ ok (by rw [rename_len]; have := nodup_le mt.nd mt.lt; omega) (fun s hs => ?_) hbk (P'.ext0 e3) (e'.trans e3.weak)
      obtain ⟨x, _, rfl⟩ := List.mem_map.mp hs
      rw [List.length_map]
      exact (sd x).few
end
end Nv
set_option Elab.async false
set_option linter.all false
set_option maxRecDepth 100000
namespace Nv
open PySem PySem.Spec PyProof.Rows L2
section
variable {P : Program} {w : World} {K : PySem.W.Frag} {mg : Str → Option Value} {base : Heap}
/-! ### the program: books held -/
theorem notF {c : Bool} {A B : Prop} (h : c = true) (hb : B) : if (!c) = true then A else B := by
  rw [h]
  exact iteF hb
theorem sc_has_state_form : FnScope ["thing", "many", "last", "pair", "message", "to"] ["thing", "many"] (defScope s_has_state_form) := ⟨rfl, rfl, rfl, by decide +kernel, rfl, by decide +kernel, by decide +kernel⟩
def sp_has_state_form (K : PySem.W.Frag) : Sp := fun vs H Q _ => ∃ (v : V) (s : State) (n : Nat), vs = [v, .int n] ∧ StV K H v s ∧ StOk n s ∧ Q (.bl true) H
theorem ok_has_state_form (T : Tx K mg) : FnOk P w K mg base CX0 3 T.has_state_form.f T.has_state_form.fd ["thing", "many"] (sp_has_state_form K) := by
  refine T.has_state_form.F.ok sc_has_state_form (fun vs H Q E h => ?_) (fun cdv A outer s H vs Q E hr h => ?_)
  · obtain ⟨v, s, n, rfl, _⟩ := h; rfl
  · obtain ⟨v, st, n, rfl, ⟨a, ps, rfl, ha, hps⟩, ok, q⟩ := h
    have plen := Paired.len hps
    refine ⟨_, (pss_cons (ps_if (pt_not (pt_val (pe_call (ok_tuple_within T) (hr.mono (by decide)) (by rfl) T.tuple_within.g T.tuple_within.F.kp T.tuple_within.b .nil pass0 (pa_cons (pv 0) (pa_cons pe_int (pa_cons (pe_glob (v := .int 5) (by rfl) T.c_MOST_MESSAGES.choose_spec ⟨_, rfl⟩) pa_nil))))))
        (pss_one (ps_ret pe_bl))
        pss_nil)
      (pss_cons (ps_set (i := 2) sc_has_state_form.nd rfl (.inl rfl) (pe_un un_neg pe_int))
      (pss_cons (ps_for PassesOwn.never rfl (pi_tup (pv 0)) (pg_name (i := 3) sc_has_state_form.nd rfl (.inl rfl))
        (pss_cons (ps_if (pt_not (pt_val (pe_call (ok_tuple_within T) (hr.mono (by decide)) (by rfl) T.tuple_within.g T.tuple_within.F.kp T.tuple_within.b .nil pass0 (pa_cons (pv 3) (pa_cons pe_int (pa_cons pe_int pa_nil))))))
          (pss_one (ps_ret pe_bl))
          pss_nil)
        (pss_cons (ps_asg (pv 3) (pg_tup rfl (pgs_cons (pg_name (i := 4) sc_has_state_form.nd rfl (.inl rfl)) (pgs_cons (pg_name (i := 5) sc_has_state_form.nd rfl (.inl rfl)) pgs_nil))))
        (pss_cons (ps_if (PW.pt (pw_or (pt_not (pt_val (pe_call (ok_whole_within T) (hr.mono (by decide)) (by rfl) T.whole_within.g T.whole_within.F.kp T.whole_within.b .nil pass0 (pa_cons (pv 4) (pa_cons (pe_op op_add (pv 2) pe_int) (pa_cons (pe_glob (v := .int 99) (by rfl) T.c_GREATEST_MESSAGE.choose_spec ⟨_, rfl⟩) pa_nil)))))) (pw_or1 (pt_not (pt_val (pe_call (ok_whole_within T) (hr.mono (by decide)) (by rfl) T.whole_within.g T.whole_within.F.kp T.whole_within.b .nil pass0 (pa_cons (pv 5) (pa_cons pe_int (pa_cons (pe_op op_sub (pv 1) pe_int) pa_nil)))))))))
          (pss_one (ps_ret pe_bl))
          pss_nil)
        (pss_one (ps_set (i := 2) sc_has_state_form.nd rfl (.inl rfl) (pv 4)))))))
      (pss_one (ps_ret pe_bl))))), ?_⟩
    refine ⟨_, rfl, a, _, 0, 5, rfl, ha.sq, SqT.ty ha.sq, _, rfl, notF (decide_eq_true ⟨by omega, ?_⟩) ?_⟩
    · rw [List.length_map, plen]
      have := ok.few
      omega
    refine ⟨1, rfl, _, rfl, a, rfl, ⟨_, ha.sq⟩, for_tup (K := K) (a := a) (xs := ps.map V.ref) (fun k σ H' => H' = H ∧ ∃ (z : Int) (y3 y4 y5 : Option V), σ = [some (.ref a), some (.int n), some (.int z), y3, y4, y5] ∧ ∀ j q, k ≤ j → st[j]? = some q → z < (q.1 : Int))
      ⟨rfl, -1, _, _, _, rfl, fun j q _ _ => by omega⟩ (fun k σ H' _ ⟨e, _⟩ => by rw [e]; exact ha.sq) ?_ ?_⟩
    · rintro k v σ H' hv ⟨rfl, z, y3, y4, y5, rfl, hz⟩
      obtain ⟨c, hc, rfl⟩ := map_at hv
      obtain ⟨p, hp, hcp⟩ := Paired.get' hps hc
      have hm := List.mem_of_getElem? hp
      refine ⟨_, rfl, c, _, 2, 2, rfl, hcp, SqT.ty hcp, _, rfl, notF (by show decide ((2 : Int) ≤ 2 ∧ (2 : Int) ≤ 2) = true; decide) ?_⟩
      refine ⟨_, rfl, c, _, rfl, hcp, rfl, _, _, rfl, _, _, rfl, rfl, ?_⟩
      have b1 := hz k p (Nat.le_refl _) hp
      have b2 := ok.msg p hm
      have b3 := ok.to p hm
      refine ⟨_, rfl, _, rfl, _, _, rfl, rfl, _, _, _, rfl, _, rfl, notF (decide_eq_true ⟨by omega, by omega⟩) ?_⟩
      refine ⟨_, rfl, _, rfl, _, _, rfl, rfl, _, _, _, rfl, _, rfl, notF (decide_eq_true ⟨by omega, by omega⟩) ?_⟩
      refine ⟨_, rfl, rfl, _, _, _, _, rfl, fun j q hj hq => ?_⟩
      obtain ⟨hk, ek⟩ := List.getElem?_eq_some_iff.mp hp
      obtain ⟨hj2, ej⟩ := List.getElem?_eq_some_iff.mp hq
      have := List.pairwise_iff_getElem.mp ok.rise k j (by rw [List.length_map]; exact hk) (by rw [List.length_map]; exact hj2) (by omega)
      rw [List.getElem_map, List.getElem_map, ek, ej] at this
      omega
    · rintro σ H' ⟨rfl, z, y3, y4, y5, rfl, hz⟩
      exact q
theorem sc_check_form : FnScope ["thing", "state"] ["thing"] (defScope s_check_form) := ⟨rfl, rfl, rfl, by decide +kernel, rfl, by decide +kernel, by decide +kernel⟩
def sp_check_form (K : PySem.W.Frag) : Sp := fun vs H Q _ => ∃ (v : V) (b : Book), vs = [v] ∧ BkV K H v b ∧ FormB b ∧ Q .non H
theorem ok_check_form (T : Tx K mg) : FnOk P w K mg base CX0 4 T.check_form.f T.check_form.fd ["thing"] (sp_check_form K) := by
  refine T.check_form.F.ok sc_check_form (fun vs H Q E h => ?_) (fun cdv A outer s H vs Q E hr h => ?_)
  · obtain ⟨v, b, rfl, _⟩ := h; rfl
  · obtain ⟨v, b, rfl, ⟨a, ls, rfl, ha, hls⟩, ok, q⟩ := h
    have llen := Paired.len hls
    refine ⟨_, (pss_cons (ps_if (pt_not (pt_val (pe_call (ok_tuple_within T) (hr.mono (by decide)) (by rfl) T.tuple_within.g T.tuple_within.F.kp T.tuple_within.b .nil pass0 (pa_cons (pv 0) (pa_cons pe_int (pa_cons (pe_glob (v := .int 8) (by rfl) T.c_MOST_STATES.choose_spec ⟨_, rfl⟩) pa_nil))))))
        (pss_one ps_never)
        pss_nil)
      (pss_one (ps_for PassesOwn.never rfl (pi_range1 (by rfl) T.n_range (pa_cons (pe_callB call_len_seq (by rfl) T.n_len PySem.boot_len (pa_cons (pv 0) pa_nil)) pa_nil)) (pg_name (i := 1) sc_check_form.nd rfl (.inl rfl))
        (pss_one (ps_if (pt_not (pt_val (pe_call (ok_has_state_form T) (hr.mono (by decide)) (by rfl) T.has_state_form.g T.has_state_form.F.kp T.has_state_form.b .nil pass0 (pa_cons (pe_ix ix_tup (pv 0) (pv 1) (fun _ _ => rfl)) (pa_cons (pe_callB call_len_seq (by rfl) T.n_len PySem.boot_len (pa_cons (pv 0) pa_nil)) pa_nil)))))
          (pss_one ps_never)
          pss_nil))))), ?_⟩
    refine ⟨_, rfl, a, _, 1, 8, rfl, ha, SqT.ty ha, _, rfl, notF (decide_eq_true ?_) ?_⟩
    · have h1 := ok.one
      have h2 := ok.eight
      rw [llen]
      exact ⟨by omega, by omega⟩
    have h2 := ok.eight
    refine ⟨_, rfl, a, _, rfl, .inr ha, _, rfl, by omega, by omega, for_range (lo := 0) (n := _) (fun k σ H' => H' = H ∧ ∃ y : Option V, σ = [some (.ref a), y]) ⟨rfl, _, rfl⟩ ?_ ?_⟩
    · rintro k σ H' hk ⟨rfl, y, rfl⟩
      simp only [Int.zero_add]
      rw [Int.toNat_natCast] at hk
      obtain ⟨u, hu, hst⟩ := Paired.get hls (mvs_lt (b := b) (s := k) (by omega))
      refine ⟨_, rfl, _, rfl, a, _, _, _, rfl, rfl, ha, atI_nat hu, _, rfl, a, _, rfl, .inr ha, u, _, b.length, by rw [llen]; rfl, hst, ok.ok (by omega), _, rfl, notF rfl ⟨rfl, _, rfl⟩⟩
    · rintro σ H' ⟨rfl, y, rfl⟩
      exact q
theorem sc_first_rows : FnScope ["states", "start", "rows", "order", "done", "state", "message", "to"] ["states", "start"] (defScope s_first_rows) := ⟨rfl, rfl, rfl, by decide +kernel, rfl, by decide +kernel, by decide +kernel⟩
def sp_first_rows (K : PySem.W.Frag) : Sp := fun vs H Q _ => ∃ (v : V) (b : Book), vs = [v, .int 0] ∧ BkW K H v b ∧ FormB b ∧ ∀ (F : List Nat) (kvs : List (Key × V)) (d : Addr) (H' : Hp), Met b F → kvs.map (·.1) = F.map kN → H' d = some (.dK kvs) → Ext [] H H' → Q (.ref d) H'
theorem ok_first_rows (T : Tx K mg) : FnOk P w K mg base CX0 1 T.first_rows.f T.first_rows.fd ["states", "start"] (sp_first_rows K) := by
  refine T.first_rows.F.ok sc_first_rows (fun vs H Q E h => ?_) (fun cdv A outer s H vs Q E hr h => ?_)
  · obtain ⟨v, b, rfl, _⟩ := h; rfl
  · obtain ⟨v, b, rfl, ⟨a, ls, rfl, ha, hls⟩, ok, q⟩ := h
    have llen := Paired.len hls
    have h8 := ok.eight
    refine ⟨_, (pss_cons (ps_set (i := 2) sc_first_rows.nd rfl (.inl rfl) (pe_disp (pps_cons (pv 1) (pe_tup pa_nil) pps_nil) (by rfl) (by rfl) (fun z => by cases z) (by decide)))
      (pss_cons (ps_set (i := 3) sc_first_rows.nd rfl (.inl rfl) (pe_lst (pa_cons (pv 1) pa_nil)))
      (pss_cons (ps_set (i := 4) sc_first_rows.nd rfl (.inl rfl) pe_int)
      (pss_cons (ps_while PassesOwn.never (pt_cmpR op_lt (pv 4) (pe_callB call_len_seq (by rfl) T.n_len PySem.boot_len (pa_cons (pv 3) pa_nil)) (nomark _))
        (pss_cons (ps_set (i := 5) sc_first_rows.nd rfl (.inl rfl) (pe_ix ix_list (pv 3) (pv 4) (fun _ _ => rfl)))
        (pss_cons (ps_aug (i := 4) sc_first_rows.nd rfl (.inl rfl) pe_int ip_add)
        (pss_one (ps_for PassesOwn.never rfl (pi_tup (pe_ix ix_tup (pv 0) (pv 5) (fun _ _ => rfl))) (pg_tup rfl (pgs_cons (pg_name (i := 6) sc_first_rows.nd rfl (.inl rfl)) (pgs_cons (pg_name (i := 7) sc_first_rows.nd rfl (.inl rfl)) pgs_nil)))
          (pss_one (ps_if (pt_cmp (pc_dnotin (hu_of hr) (pv 7) (pv 2)))
            (pss_cons (ps_dput (hu_of hr) (pv 2) (pv 7) (pe_op op_catA (pe_dget (hu_of hr) (pv 2) (pv 5) (fun _ _ => rfl)) (pe_tup (pa_cons (pv 6) pa_nil))) rfl)
            (pss_one (ps_expr (pe_bm PySem.F.plainAttrs_list PySem.F.slot_list_append PySem.F.type_list_append mt_append (pv 3) (pa_cons (pv 7) pa_nil)))))
            pss_nil)))))))
      (pss_one (ps_ret (pv 2))))))), ?_⟩
    -- rows = {0: ()}
    refine fun d hd => ⟨_, rfl, Nat.zero_le _, fun t ht => ?_⟩
    have e1 : Ext [] H (upd H d (.dK [])) := .new hd
    have e2 := e1.trans (Ext.new (L := []) (o := .tup []) ht)
    have dt : d ≠ t := fun z => by rw [← z, upd_same] at ht; cases ht
    refine ⟨by rw [upd_ne dt, upd_same], [(kN 0, .ref t)], rfl, (by show 1 ≤ 15; decide), ?_⟩
    have e3 := e2.put (o := .dK (mergeK [] [(kN 0, .ref t)])) hd
    have hd3 : upd (upd (upd H d (.dK [])) t (.tup [])) d (.dK (mergeK [] [(kN 0, .ref t)])) d = some (.dK [(kN 0, .ref t)]) := upd_same
    have ht3 : upd (upd (upd H d (.dK [])) t (.tup [])) d (.dK (mergeK [] [(kN 0, .ref t)])) t = some (.tup []) := by rw [upd_ne dt.symm, upd_same]
    generalize upd (upd (upd H d (.dK [])) t (.tup [])) d (.dK (mergeK [] [(kN 0, .ref t)])) = H3 at *
    -- order = [0]
    refine ⟨_, rfl, (by show 1 ≤ sizeLine; decide), fun o ho => ?_⟩
    have ho0 : H o = none := e3.free ho
    have od : d ≠ o := ne_of_none hd3 ho
    have e4 := e3.put2 (o := .lst [.int 0]) ho
    -- the loop
    let Row : Hp → Nat → V → Prop := fun H' m v => ∃ (x : Addr) (xs : List V), v = .ref x ∧ SqT K H' x xs ∧ xs.length ≤ m
    refine ⟨fun m σ H' => ∃ (F : List Nat) (kvs : List (Key × V)) (i : Nat) (y4 y5 y6 : Option V), σ = [some (.ref a), some (.int 0), some (.ref d), some (.ref o), some (.int i), y4, y5, y6] ∧ MetI b F i ∧ m = b.length - i ∧ H' o = some (.lst (F.map nV)) ∧ H' d = some (.dK kvs) ∧ kvs.map (·.1) = F.map kN ∧ (∀ e ∈ kvs, Row H' F.length e.2) ∧ Ext [] H H',
      ⟨_, [0], [(kN 0, .ref t)], 0, _, _, _, rfl, .first ok.one, rfl, upd_same, by rw [upd_ne od]; exact hd3, rfl, fun e he => ?_, e4⟩, ?_⟩
    · obtain rfl := List.mem_singleton.mp he
      have ot : t ≠ o := ne_of_none ht3 ho
      exact ⟨t, [], rfl, .of (by rw [upd_ne ot]; exact ht3), Nat.zero_le _⟩
    rintro m σ H' ⟨F, kvs, i, y4, y5, y6, rfl, mi, rfl, hF, hD, hk, hrow, e⟩
    have Fle : F.length ≤ b.length := nodup_le mi.nd mi.lt
    refine ⟨_, rfl, _, rfl, o, _, rfl, .inl (.of hF), _, _, rfl, rfl, _, rfl, ite2 (fun z => ?_) (fun z => ?_)⟩
    · have z := of_decide_eq_true z
      rw [List.length_map] at z
      have hiF : i < F.length := by omega
      have hs : F[i]? = some F[i] := List.getElem?_eq_getElem hiF
      generalize F[i] = x at hs
      have hx : x < b.length := mi.lt x (List.mem_of_getElem? hs)
      obtain ⟨u, hu, c, ps, rfl, hc, hps⟩ := Paired.get hls (mvs_lt hx)
      have plen := Paired.len hps
      refine ⟨fun σ H' => ∃ (F : List Nat) (kvs : List (Key × V)) (y4 y5 y6 : Option V), σ = [some (.ref a), some (.int 0), some (.ref d), some (.ref o), some (.int (i + 1 : Nat)), y4, y5, y6] ∧ MetI b F (i + 1) ∧ H' o = some (.lst (F.map nV)) ∧ H' d = some (.dK kvs) ∧ kvs.map (·.1) = F.map kN ∧ (∀ e ∈ kvs, Row H' F.length e.2) ∧ Ext [] H H', ?_, ?_⟩
      · rintro σ' H' ⟨F, kvs, y4, y5, y6, rfl, mi, r⟩
        exact ⟨b.length - (i + 1), by omega, F, kvs, i + 1, _, _, _, rfl, mi, rfl, r⟩
      refine ⟨_, rfl, _, rfl, o, _, _, _, rfl, rfl, .of hF, atI_nat (at_map hs), ?_⟩
      refine ⟨_, rfl, _, _, rfl, rfl, ?_⟩
      refine ⟨_, rfl, _, rfl, a, _, _, _, rfl, rfl, e.tup Lsts.nil ha, atI_nat hu, c, rfl, ⟨_, (e.tup Lsts.nil hc)⟩, ?_⟩
      refine for_tup (K := K) (a := c) (xs := ps.map V.ref) (fun k σ H' => ∃ (F : List Nat) (kvs : List (Key × V)) (y5 y6 : Option V), σ = [some (.ref a), some (.int 0), some (.ref d), some (.ref o), some (.int ((i : Int) + 1)), some (nV x), y5, y6] ∧ MetW b F i x k ∧ H' o = some (.lst (F.map nV)) ∧ H' d = some (.dK kvs) ∧ kvs.map (·.1) = F.map kN ∧ (∀ e ∈ kvs, Row H' F.length e.2) ∧ Ext [] H H')
        ⟨F, kvs, _, _, rfl, mi.begin hs, hF, hD, hk, hrow, e⟩ (fun k σ H' _ ⟨_, _, _, _, _, _, _, _, _, _, e⟩ => (e.tup Lsts.nil hc)) ?_ ?_
      · rintro k v σ H' hv ⟨F, kvs, y5, y6, rfl, mw, hF, hD, hk, hrow, e⟩
        obtain ⟨g, hg, rfl⟩ := map_at hv
        obtain ⟨p, hp, hcp⟩ := Paired.get' hps hg
        have hcp := hcp.ext0 e
        have Fle : F.length ≤ b.length := nodup_le mw.nd mw.lt
        have pb : p.2 < b.length := ok.to (List.mem_of_getElem? hp)
        refine ⟨g, _, rfl, hcp, rfl, _, _, rfl, _, _, rfl, rfl, ?_⟩
        refine ⟨_, rfl, _, rfl, d, _, rfl, DGet.k (k := kN p.2) hD, _, rfl, ?_⟩
        rw [valV_key hk]
        by_cases hin : p.2 ∈ F
        · rw [decide_eq_true hin]
          exact iteF ⟨F, kvs, _, _, rfl, mw.skip hp hin, hF, hD, hk, hrow, e⟩
        · rw [decide_eq_false hin]
          refine iteT ?_
          -- rows[state] + (message,)
          have xin : x ∈ F := List.mem_of_getElem? mw.here
          have hsome : (valV kvs (kN x)).isSome = true := by rw [valV_key hk]; exact decide_eq_true xin
          obtain ⟨rv, hrv⟩ := Option.isSome_iff_exists.mp hsome
          obtain ⟨r, rs, er, hr1, hr2⟩ := hrow _ (valV_mem hrv)
          have er : rv = .ref r := er
          subst er
          have newk : valV kvs (kN p.2) = none := by
            have := valV_key hk p.2
            rw [decide_eq_false hin] at this
            cases h : valV kvs (kN p.2) with
            | none => rfl
            | some z => rw [h] at this; cases this
          have klen : kvs.length = F.length := by have := congrArg List.length hk; simpa using this
          -- behind the new row: the dict, the list
          have fin : ∀ (nr : Addr) (ys : List V) (H4 : Hp), Ext [] H' H4 → SqT K H4 nr ys → ys.length ≤ F.length + 1 → ∃ H5, DPut H4 d (.int p.2) (.ref nr) H5 ∧
              ∃ q5 : H5 = upd H4 d (.dK (kvs ++ [(kN p.2, .ref nr)])), H5 o = some (.lst (F.map nV)) ∧ H5 d = some (.dK (kvs ++ [(kN p.2, .ref nr)])) ∧ (∀ e ∈ kvs ++ [(kN p.2, .ref nr)], Row H5 (F.length + 1) e.2) ∧ Ext [] H H5 := by
            intro nr ys H4 e4 hn hl
            have hD4 := e4.at hD (by simp)
            have hF4 := e4.at hF (by simp)
            refine ⟨_, DPut.k (k := kN p.2) hD4 (small1000 (by omega)), by rw [putK_new _ newk], ?_⟩
            rw [putK_new _ newk]
            have ee : Ext [d] H4 (upd H4 d (.dK (kvs ++ [(kN p.2, .ref nr)]))) := .wr (by simp)
            refine ⟨by rw [upd_ne od.symm]; exact hF4, upd_same, fun z hz => ?_, (e.trans e4).put hd⟩
            rcases List.mem_append.mp hz with hz | hz
            · obtain ⟨x, xs, h1, h2, h3⟩ := hrow z hz
              exact ⟨x, xs, h1, ee.tup (one_dk hD4) (e4.tup Lsts.nil h2), by omega⟩
            · obtain rfl := List.mem_singleton.mp hz
              exact ⟨nr, ys, rfl, ee.tup (one_dk hD4) hn, hl⟩
          have last : ∀ (nr : Addr) (H5 : Hp), H5 o = some (.lst (F.map nV)) → H5 d = some (.dK (kvs ++ [(kN p.2, .ref nr)])) → (∀ e ∈ kvs ++ [(kN p.2, .ref nr)], Row H5 (F.length + 1) e.2) → Ext [] H H5 →
              ∃ (F' : List Nat) (kvs' : List (Key × V)) (y5 y6 : Option V), [some (.ref a), some (.int 0), some (.ref d), some (.ref o), some (.int ((i : Int) + 1)), some (nV x), some (.int p.1), some (.int p.2)] = [some (.ref a), some (.int 0), some (.ref d), some (.ref o), some (.int ((i : Int) + 1)), some (nV x), y5, y6] ∧
                MetW b F' i x (k + 1) ∧ upd H5 o (.lst (F.map nV ++ [.int p.2])) o = some (.lst (F'.map nV)) ∧ upd H5 o (.lst (F.map nV ++ [.int p.2])) d = some (.dK kvs') ∧ kvs'.map (·.1) = F'.map kN ∧ (∀ e ∈ kvs', Row (upd H5 o (.lst (F.map nV ++ [.int p.2]))) F'.length e.2) ∧ Ext [] H (upd H5 o (.lst (F.map nV ++ [.int p.2]))) := by
            intro nr H5 h1 h2 h3 h4
            refine ⟨F ++ [p.2], kvs ++ [(kN p.2, .ref nr)], _, _, rfl, mw.push hp hin pb, by rw [upd_same, List.map_append]; rfl, by rw [upd_ne od]; exact h2, by rw [List.map_append, List.map_append, hk]; rfl, fun z hz => ?_, h4.put ho0⟩
            obtain ⟨x, xs, g1, g2, g3⟩ := h3 z hz
            exact ⟨x, xs, g1, Ext.tup (L := [o]) (.wr (by simp)) (one_lst h1) g2, by rw [List.length_append]; exact g3⟩
          refine ⟨_, rfl, _, rfl, d, _, rfl, by rw [← hrv]; exact DGet.k (k := kN x) hD, _, rfl, (by show 1 ≤ sizeLine; decide), fun g2 hg2 => ?_⟩
          have e5 : Ext [] H' (upd H' g2 (.tup [.int p.1])) := .new hg2
          refine ⟨r, g2, rs, _, rfl, rfl, e5.tup Lsts.nil hr1, .of upd_same, ?_, fun h0 => ?_, fun _ h0 => (by cases h0), fun _ _ g3 hg3 => ?_⟩
          · show rs.length + 1 ≤ sizeLine
            exact Nat.le_of_lt (small1000 (by omega))
          · obtain ⟨H5, dp, _, f1, f2, f3, f4⟩ := fin g2 [.int p.1] _ e5 (.of upd_same) (by simp)
            refine ⟨_, rfl, _, rfl, d, H5, rfl, dp, ?_⟩
            exact ⟨_, rfl, .inl ⟨rfl, _, .of f1⟩, _, rfl, o, _, _, rfl, rfl, f1, by rw [List.length_map]; exact small1000 (by omega), last g2 H5 f1 f2 f3 f4⟩
          · obtain ⟨H5, dp, _, f1, f2, f3, f4⟩ := fin g3 (rs ++ [.int p.1]) _ (e5.put2 hg3) (.of upd_same) (by rw [List.length_append]; show rs.length + 1 ≤ _; omega)
            refine ⟨_, rfl, _, rfl, d, H5, rfl, dp, ?_⟩
            exact ⟨_, rfl, .inl ⟨rfl, _, .of f1⟩, _, rfl, o, _, _, rfl, rfl, f1, by rw [List.length_map]; exact small1000 (by omega), last g3 H5 f1 f2 f3 f4⟩
      · rintro σ H' ⟨F, kvs, y5, y6, rfl, mw, hF, hD, hk, hrow, e⟩
        exact ⟨F, kvs, _, _, _, by rw [Int.natCast_add]; rfl, mw.done (by rw [List.length_map, plen]; exact Nat.le_refl _), hF, hD, hk, hrow, e⟩
    · have z : ¬ ((i : Int) < ((F.map nV).length : Int)) := fun y => z (decide_eq_true y)
      rw [List.length_map] at z
      have := mi.le
      exact ⟨_, rfl, q F kvs d H' (mi.met (.inl (by omega))) hk hD e⟩
theorem Met.all {b : Book} {F : List Nat} (m : Met b F) {s : Nat} (h : Rch b s) : s ∈ F := by
  induction h with
  | zero => exact List.mem_of_getElem? m.zero
  | step _ hp ih => exact m.cl _ ih _ hp
theorem sc_made_book : FnScope ["thing", "reached", "state"] ["thing"] (defScope s_made_book) := ⟨rfl, rfl, rfl, by decide +kernel, rfl, by decide +kernel, by decide +kernel⟩
def sp_made_book (K : PySem.W.Frag) : Sp := fun vs H Q _ => ∃ (v : V) (b : Book), vs = [v] ∧ BkV K H v b ∧ OkB b ∧ ∀ H', Ext [] H H' → Q v H'
theorem ok_made_book (T : Tx K mg) : FnOk P w K mg base CX0 5 T.made_book.f T.made_book.fd ["thing"] (sp_made_book K) := by
  refine T.made_book.F.ok sc_made_book (fun vs H Q E h => ?_) (fun cdv A outer s H vs Q E hr h => ?_)
  · obtain ⟨v, b, rfl, _⟩ := h; rfl
  · obtain ⟨v, b, rfl, hb, ok, q⟩ := h
    refine ⟨_, (pss_cons (ps_expr (pe_call (ok_check_form T) (hr.mono (by decide)) (by rfl) T.check_form.g T.check_form.F.kp T.check_form.b .nil pass0 (pa_cons (pv 0) pa_nil)))
      (pss_cons (ps_set (i := 1) sc_made_book.nd rfl (.inl rfl) (pe_call (ok_first_rows T) (hr.mono (by decide)) (by rfl) T.first_rows.g T.first_rows.F.kp T.first_rows.bD.choose_spec.2 T.first_rows.bD.choose_spec.1 pass0 (pa_cons (pv 0) pa_nil)))
      (pss_cons (ps_for PassesOwn.never rfl (pi_range1 (by rfl) T.n_range (pa_cons (pe_callB call_len_seq (by rfl) T.n_len PySem.boot_len (pa_cons (pv 0) pa_nil)) pa_nil)) (pg_name (i := 2) sc_made_book.nd rfl (.inl rfl))
        (pss_one (ps_if (pt_cmp (pc_dnotin (hu_of hr) (pv 2) (pv 1)))
          (pss_one ps_never)
          pss_nil)))
      (pss_one (ps_ret (pv 0)))))), ?_⟩
    refine ⟨_, rfl, v, b, rfl, hb, ok.toFormB, ?_⟩
    refine ⟨_, rfl, v, b, rfl, hb.wk, ok.toFormB, fun F kvs d H' mt hk hd e => ?_⟩
    obtain ⟨a, ls, rfl, ha, hls⟩ := hb
    have llen := Paired.len hls
    have h8 := ok.eight
    refine ⟨_, rfl, a, _, rfl, .inr (e.tup Lsts.nil ha), _, rfl, by omega, by omega, for_range (lo := 0) (n := _) (fun k σ H2 => H2 = H' ∧ ∃ y : Option V, σ = [some (.ref a), some (.ref d), y]) ⟨rfl, _, rfl⟩ ?_ ?_⟩
    · rintro k σ H2 hk' ⟨rfl, y, rfl⟩
      simp only [Int.zero_add]
      rw [Int.toNat_natCast] at hk'
      refine ⟨_, rfl, _, rfl, d, _, rfl, DGet.k (k := kN k) hd, _, rfl, ?_⟩
      rw [valV_key hk, decide_eq_true (mt.all (ok.reach k (by omega)))]
      exact iteF ⟨rfl, _, rfl⟩
    · rintro σ H2 ⟨rfl, y, rfl⟩
      exact ⟨_, rfl, q _ e⟩
end
end Nv
set_option Elab.async false
set_option linter.all false
set_option maxRecDepth 100000
namespace Nv
open PySem PySem.Spec PyProof.Rows L2
/-! ### comprehensions of some forms -/
abbrev LcEnd (g : TG) (tt : TT) (te : TE) (vs : List Nat) (σ : L2.St) (D : Addr) (J : It) (H1 : Hp) (Qd : Hp → Prop) : Prop := ∃ W : Nat → Nat → Hp → Prop, (∃ m, W 0 m (upd H1 D (.lst []))) ∧ ∀ i m H, W i m H →
  (J.stop i H ∧ Qd H) ∨ (J.go i H ∧ ∃ Nx : Hp → Prop, (∀ H', Nx H' → ∃ m', m' < m ∧ W (i + 1) m' H') ∧ ∀ x H', J.yld i H x H' → g x (wipe σ vs) H' fun σ2 H2 => wipe σ2 vs = wipe σ vs ∧ tt σ2 H2 fun b H3 =>
    if b = true then te σ2 H3 fun y H4 => ∃ acc, H4 D = some (.lst acc) ∧ acc.length < sizeLine ∧ Nx (upd H4 D (.lst (acc ++ [y]))) else Nx H3)
theorem filter_take {α : Type} (f : α → Bool) {l : List α} {i : Nat} {x : α} (h : l[i]? = some x) : (l.take (i + 1)).filter f = (l.take i).filter f ++ (if f x = true then [x] else []) := by
  rw [List.take_add_one, h, List.filter_append]
  cases e : f x <;> simp [e]
/-- [x for x in l if test]: l holds numbers -/
theorem filt_list {K : PySem.W.Frag} {a : Addr} {l : List Nat} {j : Nat} {vs : List Nat} {σ : L2.St} {H1 : Hp} {D : Addr} {Qd : Hp → Prop} {tt : TT} (f : Nat → Bool) (hD : H1 D = none) (hl : SqL K H1 a (l.map nV)) (hn : l.length < 1000)
    (hj : ∀ v : V, ((wipe σ vs).set j (some v))[j]? = some (some v)) (hw : ∀ v : V, wipe ((wipe σ vs).set j (some v)) vs = wipe σ vs)
    (ht : ∀ k H', k ∈ l → Ext [] H1 H' → tt ((wipe σ vs).set j (some (nV k))) H' (fun b H3 => b = f k ∧ Ext [] H' H3))
    (hd : ∀ H', H' D = some (.lst ((l.filter f).map nV)) → Ext [] H1 H' → Qd H') : LcEnd (gName j) (tMidT tt) (tVar j) vs σ D (Itl K a) H1 Qd := by
  refine lc_list (K := K) (a := a) (xs := l.map nV) (fun i H' => H' D = some (.lst (((l.take i).filter f).map nV)) ∧ Ext [] H1 H') ⟨upd_same, .new hD⟩ (fun i H' _ ⟨_, e⟩ => e.frz (by simp) hl) ?_ ?_
  · rintro i v H' hv ⟨h1, e⟩
    obtain ⟨k, hk, rfl⟩ := map_at hv
    refine ⟨hw _, _, ht k H' (List.mem_of_getElem? hk) e, ?_⟩
    rintro b H3 ⟨rfl, e3⟩
    have h3 := e3.at h1 (by simp)
    rw [filter_take f hk]
    refine ifB (fun hf => ?_) (fun hf => ?_)
    · refine ⟨_, hj _, _, h3, ?_, ?_, (e.trans e3).put hD⟩
      · rw [List.length_map]
        refine small1000 (Nat.le_trans (List.length_filter_le _ _) ?_)
        rw [List.length_take]
        omega
      · rw [upd_same, hf]
        simp
    · rw [hf]
      simp only [Bool.false_eq_true, if_false, List.append_nil]
      exact ⟨h3, e.trans e3⟩
  · rintro H' ⟨h1, e⟩
    rw [List.length_map, List.take_length] at h1
    exact hd H' h1 e
/-- the same over a tuple -/
theorem filt_tup {K : PySem.W.Frag} {a : Addr} {l : List Nat} {j : Nat} {vs : List Nat} {σ : L2.St} {H1 : Hp} {D : Addr} {Qd : Hp → Prop} {tt : TT} (f : Nat → Bool) (hD : H1 D = none) (hl : SqT K H1 a (l.map nV)) (hn : l.length < 1000)
    (hj : ∀ v : V, ((wipe σ vs).set j (some v))[j]? = some (some v)) (hw : ∀ v : V, wipe ((wipe σ vs).set j (some v)) vs = wipe σ vs)
    (ht : ∀ k H', k ∈ l → Ext [] H1 H' → tt ((wipe σ vs).set j (some (nV k))) H' (fun b H3 => b = f k ∧ Ext [] H' H3))
    (hd : ∀ H', H' D = some (.lst ((l.filter f).map nV)) → Ext [] H1 H' → Qd H') : LcEnd (gName j) (tMidT tt) (tVar j) vs σ D (Itt K a) H1 Qd := by
  refine lc_tup (K := K) (a := a) (xs := l.map nV) (fun i H' => H' D = some (.lst (((l.take i).filter f).map nV)) ∧ Ext [] H1 H') ⟨upd_same, .new hD⟩ (fun i H' _ ⟨_, e⟩ => e.tup Lsts.nil hl) ?_ ?_
  · rintro i v H' hv ⟨h1, e⟩
    obtain ⟨k, hk, rfl⟩ := map_at hv
    refine ⟨hw _, _, ht k H' (List.mem_of_getElem? hk) e, ?_⟩
    rintro b H3 ⟨rfl, e3⟩
    have h3 := e3.at h1 (by simp)
    rw [filter_take f hk]
    refine ifB (fun hf => ?_) (fun hf => ?_)
    · refine ⟨_, hj _, _, h3, ?_, ?_, (e.trans e3).put hD⟩
      · rw [List.length_map]
        refine small1000 (Nat.le_trans (List.length_filter_le _ _) ?_)
        rw [List.length_take]
        omega
      · rw [upd_same, hf]
        simp
    · rw [hf]
      simp only [Bool.false_eq_true, if_false, List.append_nil]
      exact ⟨h3, e.trans e3⟩
  · rintro H' ⟨h1, e⟩
    rw [List.length_map, List.take_length] at h1
    exact hd H' h1 e
/-- [x for x in range(n) if test] -/
theorem filt_range {n : Nat} {j : Nat} {vs : List Nat} {σ : L2.St} {H1 : Hp} {D : Addr} {Qd : Hp → Prop} {tt : TT} (f : Nat → Bool) (hD : H1 D = none) (hn : n < 1000)
    (hj : ∀ v : V, ((wipe σ vs).set j (some v))[j]? = some (some v)) (hw : ∀ v : V, wipe ((wipe σ vs).set j (some v)) vs = wipe σ vs)
    (ht : ∀ k H', k < n → Ext [] H1 H' → tt ((wipe σ vs).set j (some (nV k))) H' (fun b H3 => b = f k ∧ Ext [] H' H3))
    (hd : ∀ H', H' D = some (.lst (((List.range n).filter f).map nV)) → Ext [] H1 H' → Qd H') : LcEnd (gName j) (tMidT tt) (tVar j) vs σ D (Itr 0 n) H1 Qd := by
  refine lc_range (lo := 0) (n := n) (fun i H' => H' D = some (.lst ((((List.range n).take i).filter f).map nV)) ∧ Ext [] H1 H') ⟨upd_same, .new hD⟩ ?_ ?_
  · rintro i H' hi ⟨h1, e⟩
    have hk : (List.range n)[i]? = some i := by rw [List.getElem?_range hi]
    simp only [Int.zero_add]
    refine ⟨hw _, _, ht i H' hi e, ?_⟩
    rintro b H3 ⟨rfl, e3⟩
    have h3 := e3.at h1 (by simp)
    rw [filter_take f hk]
    refine ifB (fun hf => ?_) (fun hf => ?_)
    · refine ⟨_, hj _, _, h3, ?_, ?_, (e.trans e3).put hD⟩
      · rw [List.length_map]
        refine small1000 (Nat.le_trans (List.length_filter_le _ _) ?_)
        rw [List.length_take, List.length_range]
        omega
      · rw [upd_same, hf]
        simp
    · rw [hf]
      simp only [Bool.false_eq_true, if_false, List.append_nil]
      exact ⟨h3, e.trans e3⟩
  · rintro H' ⟨h1, e⟩
    rw [List.take_of_length_le (by simp)] at h1
    exact hd H' h1 e
/-- two clauses: the first over a list -/
theorem lc2_list {K : PySem.W.Frag} {a : Addr} {xs : List V} {g g1 : TG} {tt tt1 : TT} {wi1 : TI} {te : TE} {vs vs1 : List Nat} {σ : L2.St} {H1 : Hp} {D : Addr} {Qd : Hp → Prop} (Pv : Nat → Hp → Prop) (h0 : Pv 0 (upd H1 D (.lst []))) (hl : ∀ i H, i ≤ xs.length → Pv i H → SqL K H a xs)
    (hs : ∀ i x H, xs[i]? = some x → Pv i H → g x (wipe σ vs) H fun σ2 H2 => wipe σ2 vs = wipe σ vs ∧ tt σ2 H2 fun b H3 => if b = true then wi1 σ2 H3 fun J1 H4 => ∃ W1 : Nat → Nat → Hp → Prop, (∃ m, W1 0 m H4) ∧ ∀ j k H, W1 j k H →
      (J1.stop j H ∧ Pv (i + 1) H) ∨ (J1.go j H ∧ ∃ Nx1 : Hp → Prop, (∀ H', Nx1 H' → ∃ k', k' < k ∧ W1 (j + 1) k' H') ∧ ∀ x H', J1.yld j H x H' → g1 x (wipe σ2 vs1) H' fun σ3 H5 => wipe σ3 vs1 = wipe σ2 vs1 ∧ tt1 σ3 H5 fun b H6 =>
        if b = true then te σ3 H6 fun y H7 => ∃ acc, H7 D = some (.lst acc) ∧ acc.length < sizeLine ∧ Nx1 (upd H7 D (.lst (acc ++ [y]))) else Nx1 H6) else Pv (i + 1) H3)
    (hd : ∀ H, Pv xs.length H → Qd H) :
    ∃ W : Nat → Nat → Hp → Prop, (∃ m, W 0 m (upd H1 D (.lst []))) ∧ ∀ i m H, W i m H →
      ((Itl K a).stop i H ∧ Qd H) ∨ ((Itl K a).go i H ∧ ∃ Nx : Hp → Prop, (∀ H', Nx H' → ∃ m', m' < m ∧ W (i + 1) m' H') ∧ ∀ x H', (Itl K a).yld i H x H' → g x (wipe σ vs) H' fun σ2 H2 => wipe σ2 vs = wipe σ vs ∧ tt σ2 H2 fun b H3 =>
        if b = true then wi1 σ2 H3 fun J1 H4 => ∃ W1 : Nat → Nat → Hp → Prop, (∃ m, W1 0 m H4) ∧ ∀ j k H, W1 j k H →
          (J1.stop j H ∧ Nx H) ∨ (J1.go j H ∧ ∃ Nx1 : Hp → Prop, (∀ H', Nx1 H' → ∃ k', k' < k ∧ W1 (j + 1) k' H') ∧ ∀ x H', J1.yld j H x H' → g1 x (wipe σ2 vs1) H' fun σ3 H5 => wipe σ3 vs1 = wipe σ2 vs1 ∧ tt1 σ3 H5 fun b H6 =>
            if b = true then te σ3 H6 fun y H7 => ∃ acc, H7 D = some (.lst acc) ∧ acc.length < sizeLine ∧ Nx1 (upd H7 D (.lst (acc ++ [y]))) else Nx1 H6)
        else Nx H3) := by
  refine ⟨fun i m H => m = xs.length - i ∧ i ≤ xs.length ∧ Pv i H, ⟨xs.length, by simp, Nat.zero_le _, h0⟩, ?_⟩
  rintro i m H ⟨rfl, hi, p⟩
  have q := hl i H hi p
  by_cases lt : i < xs.length
  · refine .inr ⟨⟨xs, xs[i], q, List.getElem?_eq_getElem lt⟩, Pv (i + 1), fun H' p' => ⟨xs.length - (i + 1), by omega, rfl, lt, p'⟩, fun x H' y => ?_⟩
    obtain ⟨rfl, y2⟩ := y
    exact hs i x H' (y2 xs q) p
  · have e : i = xs.length := by omega
    subst e
    exact .inl ⟨⟨xs, q, Nat.le_refl _⟩, hd H p⟩
/-- the second over a tuple -/
theorem lc2_tup {K : PySem.W.Frag} {c : Addr} {ys : List V} {g1 : TG} {tt1 : TT} {te : TE} {vs1 : List Nat} {σ2 : L2.St} {H4 : Hp} {D : Addr} {Nx : Hp → Prop} (Pv : Nat → Hp → Prop) (h0 : Pv 0 H4) (hl : ∀ j H, j ≤ ys.length → Pv j H → SqT K H c ys)
    (hs : ∀ j y H, ys[j]? = some y → Pv j H → g1 y (wipe σ2 vs1) H fun σ3 H5 => wipe σ3 vs1 = wipe σ2 vs1 ∧ tt1 σ3 H5 fun b H6 =>
      if b = true then te σ3 H6 fun y H7 => ∃ acc, H7 D = some (.lst acc) ∧ acc.length < sizeLine ∧ Pv (j + 1) (upd H7 D (.lst (acc ++ [y]))) else Pv (j + 1) H6) (hd : ∀ H, Pv ys.length H → Nx H) :
    ∃ W1 : Nat → Nat → Hp → Prop, (∃ m, W1 0 m H4) ∧ ∀ j k H, W1 j k H →
      ((Itt K c).stop j H ∧ Nx H) ∨ ((Itt K c).go j H ∧ ∃ Nx1 : Hp → Prop, (∀ H', Nx1 H' → ∃ k', k' < k ∧ W1 (j + 1) k' H') ∧ ∀ x H', (Itt K c).yld j H x H' → g1 x (wipe σ2 vs1) H' fun σ3 H5 => wipe σ3 vs1 = wipe σ2 vs1 ∧ tt1 σ3 H5 fun b H6 =>
        if b = true then te σ3 H6 fun y H7 => ∃ acc, H7 D = some (.lst acc) ∧ acc.length < sizeLine ∧ Nx1 (upd H7 D (.lst (acc ++ [y]))) else Nx1 H6) := by
  refine ⟨fun i m H => m = ys.length - i ∧ i ≤ ys.length ∧ Pv i H, ⟨ys.length, by simp, Nat.zero_le _, h0⟩, ?_⟩
  rintro i m H ⟨rfl, hi, p⟩
  have q := hl i H hi p
  by_cases lt : i < ys.length
  · refine .inr ⟨⟨ys, ys[i], q, List.getElem?_eq_getElem lt⟩, Pv (i + 1), fun H' p' => ⟨ys.length - (i + 1), by omega, rfl, lt, p'⟩, fun x H' y => ?_⟩
    obtain ⟨rfl, y2⟩ := y
    exact hs i x H' (y2 ys q) p
  · have e : i = ys.length := by omega
    subst e
    exact .inl ⟨⟨ys, q, Nat.le_refl _⟩, hd H p⟩
end Nv
set_option linter.all false
namespace Nv
/-! ### forks, reach, ways back -/
theorem srt_eq : ∀ {l m : List Nat}, l.Pairwise (· < ·) → m.Pairwise (· < ·) → (∀ k, k ∈ l ↔ k ∈ m) → l = m
  | [], [], _, _, _ => rfl
  | [], b :: m, _, _, h => by have := (h b).mpr (by simp); cases this
  | a :: l, [], _, _, h => by have := (h a).mp (by simp); cases this
  | a :: l, b :: m, h1, h2, h => by
    obtain ⟨a1, a2⟩ := List.pairwise_cons.mp h1
    obtain ⟨b1, b2⟩ := List.pairwise_cons.mp h2
    have e : a = b := by
      have p := (h a).mp (by simp)
      have q := (h b).mpr (by simp)
      rcases List.mem_cons.mp p with p | p
      · exact p
      · rcases List.mem_cons.mp q with q | q
        · exact q.symm
        · have := b1 a p
          have := a1 b q
          omega
    subst e
    rw [srt_eq a2 b2 fun k => ?_]
    constructor
    · intro hk
      rcases List.mem_cons.mp ((h k).mp (List.mem_cons_of_mem _ hk)) with e | e
      · have := a1 k hk; omega
      · exact e
    · intro hk
      rcases List.mem_cons.mp ((h k).mpr (List.mem_cons_of_mem _ hk)) with e | e
      · have := b1 k hk; omega
      · exact e
theorem filt_srt (n : Nat) (f : Nat → Bool) : ((List.range n).filter f).Pairwise (· < ·) := List.Pairwise.sublist List.filter_sublist List.pairwise_lt_range
theorem mem_filt {n : Nat} {f : Nat → Bool} {k : Nat} : k ∈ (List.range n).filter f ↔ k < n ∧ f k = true := by rw [List.mem_filter, List.mem_range]
def forksM (b : Book) : List Nat := (List.range b.length).filter fun s => decide (1 < (mvs b s).length)
/-- one message further -/
def nextB (b : Book) (L : List Nat) (k : Nat) : Bool := decide (k ∈ L) || L.any fun j => (mvs b j).any fun p => p.2 == k
def stepL (b : Book) (L : List Nat) : List Nat := (List.range b.length).filter (nextB b L)
def wiL (b : Book) (s : Nat) : Nat → List Nat
  | 0 => [s]
  | n + 1 => stepL b (wiL b s n)
def reachL (b : Book) (s many : Nat) : List Nat := wiL b s (min many b.length)
def ledL (b : Book) (t many : Nat) : List Nat := if many = 0 then [] else reachL b t (many - 1)
theorem wiL_lt {b : Book} {s : Nat} (hs : s < b.length) : ∀ n, ∀ k ∈ wiL b s n, k < b.length
  | 0, k, hk => by rw [List.mem_singleton.mp hk]; exact hs
  | n + 1, k, hk => (mem_filt.mp hk).1
theorem wiL_srt (b : Book) (s : Nat) : ∀ n, (wiL b s n).Pairwise (· < ·)
  | 0 => by simp [wiL]
  | n + 1 => filt_srt _ _
theorem srt_nodup {l : List Nat} (h : l.Pairwise (· < ·)) : l.Nodup := List.Pairwise.imp (fun h e => by omega) h
theorem wiL_len {b : Book} {s : Nat} (hs : s < b.length) (n : Nat) : (wiL b s n).length ≤ b.length := nodup_le (srt_nodup (wiL_srt b s n)) (wiL_lt hs n)
def waysM (b : Book) (s : Nat) : Nat := ((mvs b s).filter fun p => decide (s ∈ reachL b p.2 b.length)).length
def knotsM (b : Book) : List Nat := (List.range b.length).filter fun s => decide (1 < waysM b s)
/-- a step's list, by what it has -/
theorem step_eq {b : Book} (fb : FormB b) {L ahead ms : List Nat} (hL : ∀ k ∈ L, k < b.length) (ha : ∀ k, k ∈ ahead ↔ ∃ j ∈ L, ∃ p ∈ mvs b j, p.2 = k) (h1 : ms.Pairwise (· < ·)) (h2 : ∀ k, k ∈ ms ↔ k ∈ L ∨ k ∈ ahead) : ms = stepL b L := by
  refine srt_eq h1 (filt_srt _ _) fun k => ?_
  rw [h2, ha]
  unfold stepL
  rw [mem_filt]
  unfold nextB
  rw [Bool.or_eq_true, decide_eq_true_eq, List.any_eq_true]
  constructor
  · rintro (h | ⟨j, hj, p, hp, e⟩)
    · exact ⟨hL k h, .inl h⟩
    · exact ⟨by rw [← e]; exact fb.to hp, .inr ⟨j, hj, by rw [List.any_eq_true]; exact ⟨p, hp, by simp [e]⟩⟩⟩
  · rintro ⟨_, h | ⟨j, hj, h⟩⟩
    · exact .inl h
    · rw [List.any_eq_true] at h
      obtain ⟨p, hp, e⟩ := h
      exact .inr ⟨j, hj, p, hp, by simpa using e⟩
def leadM (b : Book) (W s : Nat) (goals : List Nat) : List Nat := ((mvs b s).filter fun p => (ledL b p.2 (W - 1)).any fun k => decide (k ∈ goals)).map (·.1)
theorem reachL_lt {b : Book} {s m : Nat} (hs : s < b.length) : ∀ k ∈ reachL b s m, k < b.length := wiL_lt hs _
theorem ledL_lt {b : Book} {s m : Nat} (hs : s < b.length) : ∀ k ∈ ledL b s m, k < b.length := by
  unfold ledL
  split
  · intro k hk; cases hk
  · exact reachL_lt hs
/-! ### a dict of unlike keys -/
open L2 in
theorem valV_none_of {kvs : List (Key × V)} {k : Key} (h : k ∉ kvs.map (·.1)) : valV kvs k = none := by
  cases e : valV kvs k with
  | none => rfl
  | some v => exact absurd (List.mem_map.mpr ⟨_, valV_mem e, rfl⟩) h
open L2 in
theorem mergeK_nd : ∀ (more acc : List (Key × V)), ((acc ++ more).map (·.1)).Nodup → mergeK acc more = acc ++ more
  | [], acc, _ => by show acc = acc ++ []; rw [List.append_nil]
  | p :: r, acc, h => by
    have hp : valV acc p.1 = none := valV_none_of fun z => by
      rw [List.map_append, List.map_cons, List.nodup_append] at h
      exact h.2.2 _ z _ (by simp) rfl
    show mergeK (putK acc p.1 p.2) r = _
    rw [putK_new _ hp, mergeK_nd r (acc ++ [(p.1, p.2)]) (by rw [List.append_assoc]; exact h), List.append_assoc]
    rfl
open L2 in
theorem valV_nd : ∀ {kvs : List (Key × V)} {k : Key} {v : V}, (kvs.map (·.1)).Nodup → (k, v) ∈ kvs → valV kvs k = some v
  | [], _, _, _, h => nomatch h
  | p :: r, k, v, nd, h => by
    rw [List.map_cons, List.nodup_cons] at nd
    rcases List.mem_cons.mp h with h | h
    · subst h
      exact valV_pos rfl
    · have ne : ¬ p.1 = k := fun e => nd.1 (by rw [e]; exact List.mem_map.mpr ⟨_, h, rfl⟩)
      rw [valV_neg ne]
      exact valV_nd nd.2 h
/-! ### ranks, round by round -/
def setAll (r : List (Option Int)) (L : List Nat) (x : Int) : List (Option Int) := L.foldl (fun r f => r.set f (some x)) r
theorem setAll_snoc (r : List (Option Int)) (L : List Nat) (f : Nat) (x : Int) : setAll r (L ++ [f]) x = (setAll r L x).set f (some x) := by
  unfold setAll
  rw [List.foldl_append]
  rfl
theorem setAll_len : ∀ (L : List Nat) (r : List (Option Int)) (x : Int), (setAll r L x).length = r.length
  | [], _, _ => rfl
  | f :: L, r, x => by
    show (setAll (r.set f (some x)) L x).length = _
    rw [setAll_len L, List.length_set]
def fallM (b : Book) (W : Nat) (st : List Nat) : List Nat := st.filter fun f => decide ((leadM b W f st).length < 2)
def restM (b : Book) (W : Nat) (st : List Nat) : List Nat := st.filter fun f => !decide (f ∈ fallM b W st)
inductive Rk (b : Book) (W : Nat) : Nat → List Nat → List (Option Int) → List (Option Int) → List Nat → Prop
  | stop {t : Nat} {st : List Nat} {r : List (Option Int)} : fallM b W st = [] → Rk b W t st r (setAll r st (-1)) st
  | go {t : Nat} {st fin : List Nat} {r res : List (Option Int)} : fallM b W st ≠ [] → Rk b W (t + 1) (restM b W st) (setAll r (fallM b W st) t) res fin → Rk b W t st r res fin
theorem rest_len {b : Book} {W : Nat} {st : List Nat} (h : fallM b W st ≠ []) : (restM b W st).length < st.length := by
  obtain ⟨f, hf⟩ := List.exists_mem_of_ne_nil _ h
  have hs : f ∈ st := (List.mem_filter.mp hf).1
  unfold restM
  refine Nat.lt_of_le_of_ne (List.length_filter_le _ _) fun e => ?_
  have := List.length_filter_eq_length_iff.mp e f hs
  simp [hf] at this
def LastM (b : Book) (W : Nat) (res : List (Option Int)) (fin : List Nat) : Prop := Rk b W 0 (forksM b) (List.replicate b.length none) res fin
def lastL (b : Book) (res : List (Option Int)) : List Nat := (List.range b.length).filter fun s => decide (res[s]? = some (some (-1)))
/-- the least number where the window is a number -/
def leastM (b : Book) (res : List (Option Int)) : Nat := if mvs b 0 = [] then 0 else if forksM b = [] then 1 else if lastL b res = [] then 2 else 3
theorem rk_len {b : Book} {W t : Nat} {st fin : List Nat} {r res : List (Option Int)} (h : Rk b W t st r res fin) : res.length = r.length := by
  induction h with
  | stop _ => exact setAll_len _ _ _
  | go _ _ ih => rw [ih, setAll_len]
theorem rk_ex (b : Book) (W : Nat) : ∀ (n t : Nat) (st : List Nat) (r : List (Option Int)), st.length ≤ n → ∃ res fin, Rk b W t st r res fin := by
  intro n
  induction n with
  | zero =>
    intro t st r h
    have : st = [] := List.eq_nil_of_length_eq_zero (by omega)
    subst this
    exact ⟨_, _, .stop rfl⟩
  | succ n ih =>
    intro t st r h
    by_cases e : fallM b W st = []
    · exact ⟨_, _, .stop e⟩
    · obtain ⟨res, fin, k⟩ := ih (t + 1) (restM b W st) (setAll r (fallM b W st) t) (by have := rest_len e; omega)
      exact ⟨res, fin, .go e k⟩
theorem rk_fun {b : Book} {W t : Nat} {st fin fin' : List Nat} {r res res' : List (Option Int)} (h : Rk b W t st r res fin) (h' : Rk b W t st r res' fin') : res = res' ∧ fin = fin' := by
  induction h with
  | stop e =>
    cases h' with
    | stop _ => exact ⟨rfl, rfl⟩
    | go e' _ => exact absurd e e'
  | go e _ ih =>
    cases h' with
    | stop e' => exact absurd e' e
    | go _ k => exact ih k
open PySem PySem.Spec PyProof.Rows L2
/-- the first window for three wires -/
def FromW (b : Book) (o : Option Nat) : Prop := match o with
  | some W => 1 ≤ W ∧ W ≤ 9 ∧ (∃ res fin, LastM b W res fin ∧ leastM b res = 3) ∧ ∀ V, 1 ≤ V → V < W → ∀ res fin, LastM b V res fin → leastM b res ≠ 3
  | none => ∀ V, 1 ≤ V → V ≤ 9 → ∀ res fin, LastM b V res fin → leastM b res ≠ 3
def oN : Option Nat → V
  | none => .non
  | some n => nV n
end Nv
set_option Elab.async false
set_option linter.all false
set_option maxRecDepth 100000
namespace Nv
open PySem PySem.Spec PyProof.Rows L2
section
variable {P : Program} {w : World} {K : PySem.W.Frag} {mg : Str → Option Value} {base : Heap}
/-! ### forks, reach -/
theorem forTo {n m : Nat} (h : n = m) : ((n : Int)).toNat = m := by rw [Int.toNat_natCast, h]
theorem sc_fork_states : FnScope ["book", "state"] ["book"] (defScope s_fork_states) := ⟨rfl, rfl, rfl, by decide +kernel, rfl, by decide +kernel, by decide +kernel⟩
def sp_fork_states (K : PySem.W.Frag) : Sp := fun vs H Q _ => ∃ (v : V) (b : Book), vs = [v] ∧ BkV K H v b ∧ b.length ≤ 8 ∧ ∀ (t : Addr) (H' : Hp), SqT K H' t ((forksM b).map nV) → Ext [] H H' → Q (.ref t) H'
theorem ok_fork_states (T : Tx K mg) : FnOk P w K mg base CX0 1 T.fork_states.f T.fork_states.fd ["book"] (sp_fork_states K) := by
  refine T.fork_states.F.ok sc_fork_states (fun vs H Q E h => ?_) (fun cdv A outer s H vs Q E hr h => ?_)
  · obtain ⟨v, b, rfl, _⟩ := h; rfl
  · obtain ⟨v, b, rfl, ⟨a, ls, rfl, ha, hls⟩, h8, q⟩ := h
    have llen := Paired.len hls
    refine ⟨_, (pss_one (ps_ret (pe_callTy call_tupZ (by rfl) T.n_tuple (by decide +kernel) (pa_cons (pe_lc (own := [("state", 1)]) rfl sc_fork_states.nd (pi_range1 (by rfl) T.n_range (pa_cons (pe_callB call_len_seq (by rfl) T.n_len PySem.boot_len (pa_cons (pv 0) pa_nil)) pa_nil)) (blkOk_by (own := [("state", 1)]) (N := ["book", "state"]) (sc := defScope s_fork_states) (by decide +kernel)) (fun _ _ _ _ _ => (pg_name (i := 1) sc_fork_states.nd rfl (.inl rfl))) (fun _ _ _ _ _ => pts_one (pt_mid (pt_cmpR op_gt (pe_callB (call_len_seqK K) (by rfl) T.n_len PySem.boot_len (pa_cons (pe_ix (ix_tupK K) (pv 0) (pv 1) (fun _ _ => rfl)) pa_nil)) pe_int (nomark _)))) (fun _ _ _ _ _ => (pv 1))) pa_nil)))), ?_⟩
    refine ⟨_, rfl, a, _, rfl, .inr ha, _, rfl, by omega, by omega, fun D hD => ?_⟩
    rw [forTo llen]
    refine filt_range (fun s => decide (1 < (mvs b s).length)) hD (by omega) (fun v => rfl) (fun v => rfl) (fun k H' hk e => ?_) (fun H' h e => ?_)
    · obtain ⟨u, hu, c, ps, rfl, hc, hps⟩ := Paired.get hls (mvs_lt hk)
      have plen := Paired.len hps
      refine ⟨_, rfl, _, rfl, a, _, _, _, rfl, rfl, e.tup Lsts.nil ha, atI_nat hu, c, _, rfl, .inr (e.tz Lsts.nil hc).sq, _, _, rfl, rfl, _, rfl, ?_, .refl⟩
      rw [List.length_map, plen]
      refine decide_eq_decide.mpr ?_
      omega
    · refine ⟨D, _, rfl, .of h, fun t H2 ht hH => ?_⟩
      obtain ⟨o, _, rfl⟩ := hH
      exact q t _ (.inl (.inr ⟨o, upd_same⟩)) (e.put2 ht)
theorem sc_reach : FnScope ["book", "state", "many", "found", "_", "ahead", "at", "message", "to"] ["book", "state", "many"] (defScope s_reach) := ⟨rfl, rfl, rfl, by decide +kernel, rfl, by decide +kernel, by decide +kernel⟩
def sp_reach (K : PySem.W.Frag) : Sp := fun vs H Q _ => ∃ (v : V) (b : Book) (s m : Nat), vs = [v, .int s, .int m] ∧ BkV K H v b ∧ FormB b ∧ s < b.length ∧ ∀ (t : Addr) (H' : Hp), SqT K H' t ((reachL b s m).map nV) → Ext [] H H' → Q (.ref t) H'
theorem ok_reach (T : Tx K mg) : FnOk P w K mg base CX0 1 T.reach.f T.reach.fd ["book", "state", "many"] (sp_reach K) := by
  refine T.reach.F.ok sc_reach (fun vs H Q E h => ?_) (fun cdv A outer s H vs Q E hr h => ?_)
  · obtain ⟨v, b, s, m, rfl, _⟩ := h; rfl
  · obtain ⟨v, b, st, m, rfl, ⟨a, ls, rfl, ha, hls⟩, fb, hs, q⟩ := h
    have llen := Paired.len hls
    have h8 := fb.eight
    refine ⟨_, (pss_cons (ps_set (i := 3) sc_reach.nd rfl (.inl rfl) (pe_lst (pa_cons (pv 1) pa_nil)))
      (pss_cons (ps_for PassesOwn.never rfl (pi_range1 (by rfl) T.n_range (pa_cons (pe_callB (call_min2 rfl) (by rfl) T.n_min (by decide +kernel) (pa_cons (pv 2) (pa_cons (pe_callB call_len_seq (by rfl) T.n_len PySem.boot_len (pa_cons (pv 0) pa_nil)) pa_nil))) pa_nil)) (pg_name (i := 4) sc_reach.nd rfl (.inl rfl))
        (pss_cons (ps_setLc2 (i := 5) (own := [("at", 6), ("message", 7), ("to", 8)]) (vs1 := [7, 8]) rfl sc_reach.nd rfl rfl (sw_true rfl rfl rfl (by decide +kernel)) (pi_list (pv 3)) (blkOk_by (own := [("at", 6), ("message", 7), ("to", 8)]) (N := ["book", "state", "many", "found", "_", "ahead", "at", "message", "to"]) (sc := defScope s_reach) (by decide +kernel)) (by decide) (fun _ _ _ _ _ => (pg_name (i := 6) sc_reach.nd rfl (.inl rfl))) (fun _ _ _ _ _ => pts_nil) (fun _ _ _ _ _ => (pi_tupK K (pe_ix (ix_tupK K) (pv 0) (pv 6) (fun _ _ => rfl)))) (fun _ _ _ _ _ => (pg_tupK (n := 2) K rfl (pgs_cons (pg_name (i := 7) sc_reach.nd rfl (.inl rfl)) (pgs_cons (pg_name (i := 8) sc_reach.nd rfl (.inl rfl)) pgs_nil)))) (fun _ _ _ _ _ => pts_nil) (fun _ _ _ _ _ => (pv 8)))
        (pss_one (ps_set (i := 3) sc_reach.nd rfl (.inl rfl) (pe_callB (cr_sortedSet rfl) (by rfl) T.n_sorted (by decide +kernel) (pa_cons (pe_callTy (cr_setI rfl) (by rfl) T.n_set (by decide +kernel) (pa_cons (pe_op op_cat (pv 3) (pv 5)) pa_nil)) pa_nil))))))
      (pss_one (ps_ret (pe_callTy call_tupZ (by rfl) T.n_tuple (by decide +kernel) (pa_cons (pv 3) pa_nil)))))), ?_⟩
    -- found = [state]
    refine ⟨_, rfl, (by show 1 ≤ sizeLine; decide), fun f0 hf0 => ?_⟩
    -- the loop
    have hmin : (if ((ls.length : Int)) < (m : Int) then (ls.length : Int) else (m : Int)) = ((min m b.length : Nat) : Int) := by
      rw [llen]
      by_cases h : (b.length : Int) < (m : Int)
      · rw [if_pos h]; omega
      · rw [if_neg h]; omega
    refine ⟨_, rfl, _, rfl, a, _, rfl, .inr (Ext.tup (Ext.new (L := []) hf0) Lsts.nil ha), _, _, rfl, _, rfl, ?_⟩
    rw [hmin]
    refine ⟨by omega, by omega, ?_⟩
    rw [Int.toNat_natCast]
    refine for_range (lo := 0) (n := _) (fun i σ H' => ∃ (f : Addr) (y4 y5 : Option V), σ = [some (.ref a), some (.int st), some (.int m), some (.ref f), y4, y5, none, none, none] ∧ H' f = some (.lst ((wiL b st i).map nV)) ∧ Ext [] H H') ⟨f0, _, _, rfl, upd_same, .new hf0⟩ ?_ ?_
    · rintro i σ H1 hi ⟨f, y4, y5, rfl, hF, e1⟩
      -- ahead
      refine ⟨_, rfl, f, rfl, ⟨_, .of hF⟩, fun D hD => ?_⟩
      have fD : f ≠ D := ne_of_none hF hD
      have wlt := wiL_lt hs i
      have wlen := wiL_len hs i
      refine lc2_list (K := K) (a := f) (xs := (wiL b st i).map nV) (fun j H' => ∃ ah : List Nat, H' D = some (.lst (ah.map nV)) ∧ ah.length ≤ 5 * j ∧ (∀ k, k ∈ ah ↔ ∃ x ∈ (wiL b st i).take j, ∃ p ∈ mvs b x, p.2 = k) ∧ Ext [] H1 H') ⟨[], upd_same, Nat.zero_le _, fun k => by simp, .new hD⟩ (fun j H' _ ⟨_, _, _, _, e⟩ => .of (e.at hF (by simp))) ?_ ?_
      · rintro j v H' hv ⟨ah, hA, al, am, e2⟩
        obtain ⟨x, hx, rfl⟩ := map_at hv
        have hxb : x < b.length := wlt x (List.mem_of_getElem? hx)
        obtain ⟨u, hu, c, ps, rfl, hc, hps⟩ := Paired.get hls (mvs_lt hxb)
        have plen := Paired.len hps
        have five := (fb.ok hxb).few
        have e3 := e1.trans e2
        refine ⟨rfl, yes ?_⟩
        refine ⟨_, rfl, _, rfl, a, _, _, _, rfl, rfl, e3.tup Lsts.nil ha, atI_nat hu, c, rfl, ⟨_, (e3.tz Lsts.nil hc).sq⟩, ?_⟩
        refine lc2_tup (K := K) (c := c) (ys := ps.map V.ref) (fun k H2 => ∃ ah2 : List Nat, H2 D = some (.lst (ah2.map nV)) ∧ ah2.length ≤ 5 * j + k ∧ (∀ z, z ∈ ah2 ↔ z ∈ ah ∨ ∃ p ∈ (mvs b x).take k, p.2 = z) ∧ Ext [] H1 H2) ⟨ah, hA, al, fun z => by simp, e2⟩ (fun k H2 _ ⟨_, _, _, _, e⟩ => ((e1.trans e).tz Lsts.nil hc).sq) ?_ ?_
        · rintro k v H2 hv2 ⟨ah2, hA2, al2, am2, e5⟩
          obtain ⟨g, hg, rfl⟩ := map_at hv2
          obtain ⟨p, hp, hcp⟩ := Paired.get' hps hg
          have hk5 : k < 5 := by
            have := (List.getElem?_eq_some_iff.mp hp).1
            omega
          have hjl : j < b.length := by
            have := (List.getElem?_eq_some_iff.mp hx).1
            omega
          refine ⟨g, _, rfl, hcp.ext0 (e1.trans e5), rfl, _, _, rfl, _, _, rfl, rfl, rfl, yes ?_⟩
          refine ⟨_, rfl, _, hA2, by rw [List.length_map]; exact small1000 (by omega), ah2 ++ [p.2], by rw [upd_same, List.map_append]; rfl, by rw [List.length_append]; show ah2.length + 1 ≤ _; omega, fun z => ?_, e5.put hD⟩
          · rw [List.mem_append, am2, List.take_add_one, hp]
            constructor
            · rintro ((h | ⟨y, hy, e⟩) | h)
              · exact .inl h
              · exact .inr ⟨y, List.mem_append_left _ hy, e⟩
              · exact .inr ⟨p, List.mem_append_right _ (by simp), (List.mem_singleton.mp h).symm⟩
            · rintro (h | ⟨y, hy, e⟩)
              · exact .inl (.inl h)
              · rcases List.mem_append.mp hy with hy | hy
                · exact .inl (.inr ⟨y, hy, e⟩)
                · have : y = p := by simpa using hy
                  subst this
                  exact .inr (List.mem_singleton.mpr e.symm)
        · rintro H2 ⟨ah2, hA2, al2, am2, e5⟩
          rw [List.length_map, plen] at al2 am2
          refine ⟨ah2, hA2, by omega, fun k => ?_, e5⟩
          rw [am2, am, List.take_of_length_le (Nat.le_refl _), List.take_add_one, hx]
          constructor
          · rintro (⟨y, hy, r⟩ | ⟨p, hp, e⟩)
            · exact ⟨y, List.mem_append_left _ hy, r⟩
            · exact ⟨x, List.mem_append_right _ (by simp), p, hp, e⟩
          · rintro ⟨y, hy, p, hp, e⟩
            rcases List.mem_append.mp hy with hy | hy
            · exact .inl ⟨y, hy, p, hp, e⟩
            · have : y = x := by simpa using hy
              subst this
              exact .inr ⟨p, hp, e⟩
      · rintro H' ⟨ah, hA, al, am, e2⟩
        rw [List.length_map] at al am
        rw [List.take_length] at am
        have hF2 := e2.at hF (by simp)
        have e3 := e1.trans e2
        -- found = sorted(set(found + ahead))
        refine ⟨_, rfl, _, rfl, f, D, _, _, rfl, rfl, hF2, hA, ?_, fun c hc => ?_⟩
        · rw [List.length_map, List.length_map]
          exact Nat.le_of_lt (small1000 (by omega))
        have e4 : Ext [] H' (upd H' c (.lst ((wiL b st i).map nV ++ ah.map nV))) := .new hc
        refine ⟨c, (wiL b st i ++ ah).map (fun n : Nat => (n : Int)), rfl, .of ?_, ?_, fun p z hp hz => ?_⟩
        · rw [upd_same, ← List.map_append, map_nV_int]
        · rw [List.length_map, List.length_append]
          omega
        have e5 := e4.trans (Ext.new (L := []) (o := SetO w p (fun j => decide (j ∈ (wiL b st i ++ ah).map (fun n : Nat => (n : Int)))) z) hp)
        refine ⟨p, _, z, rfl, upd_same, ?_, fun ns t hns hmem hlen ht => ?_⟩
        · rw [List.length_map, List.length_append] at hz
          omega
        have nn : ∃ ms : List Nat, ns = ms.map (fun n : Nat => (n : Int)) := by
          refine ⟨ns.map Int.toNat, ?_⟩
          rw [List.map_map]
          conv => lhs; rw [← List.map_id ns]
          refine List.map_congr_left fun x hx => ?_
          have := (hmem x).mp hx
          have := of_decide_eq_true this
          obtain ⟨n, _, rfl⟩ := List.mem_map.mp this
          rfl
        obtain ⟨ms, rfl⟩ := nn
        have ems : ms = stepL b (wiL b st i) := by
          refine step_eq fb wlt am ?_ fun k => ?_
          · rw [List.pairwise_map] at hns
            exact List.Pairwise.imp (fun h => by omega) hns
          · have h1 := hmem (k : Int)
            rw [decide_eq_true_eq, List.mem_map, List.mem_map] at h1
            constructor
            · intro hk
              obtain ⟨y, hy, e⟩ := h1.mp ⟨k, hk, rfl⟩
              have : y = k := by omega
              subst this
              exact List.mem_append.mp hy
            · intro hk
              obtain ⟨y, hy, e⟩ := h1.mpr ⟨k, List.mem_append.mpr hk, rfl⟩
              have : y = k := by omega
              subst this
              exact hy
        subst ems
        exact ⟨t, _, _, rfl, by rw [upd_same, ← map_nV_int]; rfl, (e3.trans e5).put2 ht⟩
    · rintro σ H' ⟨f, y4, y5, rfl, hF, e⟩
      refine ⟨_, rfl, f, _, rfl, .of hF, fun t H2 ht hH => ?_⟩
      obtain ⟨o, _, rfl⟩ := hH
      exact q t _ (.inl (.inr ⟨o, upd_same⟩)) (e.put2 ht)
end
end Nv
set_option Elab.async false
set_option linter.all false
set_option maxRecDepth 100000
namespace Nv
open PySem PySem.Spec PyProof.Rows L2
section
variable {P : Program} {w : World} {K : PySem.W.Frag} {mg : Str → Option Value} {base : Heap}
/-! ### ways that lead, ways back -/
theorem iteNS' {c A B : Prop} [Decidable c] (hc : ¬ c) (h : A) : if (!decide c) = true then A else B := by
  rw [decide_eq_false hc]
  exact iteT h
theorem rise_nd {s : State} (h : (s.map (·.1)).Pairwise (· < ·)) : (s.map fun q => ((kN q.1, V.int q.2) : Key × V)).map (·.1) |>.Nodup := by
  rw [List.map_map]
  have e : ((fun x : Key × V => x.1) ∘ fun q : Nat × Nat => ((kN q.1, V.int q.2) : Key × V)) = kN ∘ (·.1) := rfl
  rw [e, ← List.map_map]
  refine List.Pairwise.map kN (fun a b h2 h3 => ?_) h
  have : (a : Int) = (b : Int) := Sum.inl.inj h3
  omega
theorem sc_led_to : FnScope ["book", "state", "message", "many"] ["book", "state", "message", "many"] (defScope s_led_to) := ⟨rfl, rfl, rfl, by decide +kernel, rfl, by decide +kernel, by decide +kernel⟩
def sp_led_to (K : PySem.W.Frag) : Sp := fun vs H Q _ => ∃ (v : V) (b : Book) (s k : Nat) (p : Nat × Nat), vs = [v, .int s, .int p.1, .int k] ∧ BkV K H v b ∧ FormB b ∧ p ∈ mvs b s ∧ ∀ (t : Addr) (H' : Hp), SqT K H' t ((ledL b p.2 k).map nV) → Ext [] H H' → Q (.ref t) H'
theorem ok_led_to (T : Tx K mg) : FnOk P w K mg base CX0 2 T.led_to.f T.led_to.fd ["book", "state", "message", "many"] (sp_led_to K) := by
  refine T.led_to.F.ok sc_led_to (fun vs H Q E h => ?_) (fun cdv A outer s H vs Q E hr h => ?_)
  · obtain ⟨v, b, s, k, p, rfl, _⟩ := h; rfl
  · obtain ⟨v, b, st, k, p, rfl, hb, fb, hp, q⟩ := h
    obtain ⟨a, ls, rfl, ha, hls⟩ := id hb
    refine ⟨_, (pss_cons (ps_if (pt_cmpR op_eq (pv 3) pe_int (nomark _))
        (pss_one (ps_ret (pe_tup pa_nil)))
        pss_nil)
      (pss_one (ps_ret (pe_call (ok_reach T) (hr.mono (by decide)) (by rfl) T.reach.g T.reach.F.kp T.reach.b .nil pass0 (pa_cons (pv 0) (pa_cons (pe_dget (hu_of hr) (pe_callTy (call_dictT rfl) (by rfl) T.n_dict (by decide +kernel) (pa_cons (pe_ix ix_tup (pv 0) (pv 1) (fun _ _ => rfl)) pa_nil)) (pv 2) (fun _ _ => rfl)) (pa_cons (pe_op op_sub (pv 3) pe_int) pa_nil))))))), ?_⟩
    refine ⟨_, rfl, rfl, _, rfl, ?_⟩
    have e0 : decide (V.int (k : Int) = V.int 0) = decide (k = 0) := by
      rw [dec_int]
      refine decide_eq_decide.mpr ?_
      omega
    rw [e0]
    refine ite2 (fun z => ?_) (fun z => ?_)
    · have z := of_decide_eq_true z
      subst z
      exact ⟨Nat.zero_le _, fun t ht => q t _ (.of upd_same) (.new ht)⟩
    · have z : ¬ k = 0 := fun y => z (decide_eq_true y)
      have hs : st < b.length := by
        by_cases h : st < b.length
        · exact h
        · rw [mvs_out (by omega)] at hp
          cases hp
      obtain ⟨u, hu, c, ps, rfl, hc, hps⟩ := Paired.get hls (mvs_lt hs)
      have nd := rise_nd (fb.ok hs).rise
      have pk : Paired (fun p kv => SqT K H p [kV kv.1, kv.2]) ps ((mvs b st).map fun q => ((kN q.1, V.int q.2) : Key × V)) := by
        clear nd hu hc
        generalize mvs b st = m at hps
        clear hp
        induction hps with
        | nil => exact .nil
        | cons r _ ih => exact .cons r ih
      refine ⟨_, rfl, _, rfl, _, rfl, a, _, _, _, rfl, rfl, ha, atI_nat hu, c, ps, _, rfl, hc, pk, fun d hd => ?_⟩
      refine ⟨_, rfl, d, .int p.2, rfl, ?_, _, rfl, _, _, rfl, rfl, ?_⟩
      · rw [mergeK_nd _ [] (by simpa using nd)]
        have hm : (kN p.1, V.int p.2) ∈ (mvs b st).map (fun q => ((kN q.1, V.int q.2) : Key × V)) := List.mem_map.mpr ⟨p, hp, rfl⟩
        have := DGet.k (k := kN p.1) (upd_same (H := H) (a := d) (o := .dK ([] ++ (mvs b st).map fun q => ((kN q.1, V.int q.2) : Key × V))))
        rw [List.nil_append, valV_nd nd hm] at this
        exact this
      · have e1 : Ext [] H (upd H d (.dK (mergeK [] ((mvs b st).map fun q => ((kN q.1, V.int q.2) : Key × V))))) := .new hd
        refine ⟨.ref a, b, p.2, k - 1, ?_, hb.ext0 e1, fb, fb.to hp, fun t H' ht e => q t H' ?_ (e1.trans e)⟩
        · have : ((k : Int)) - 1 = ((k - 1 : Nat) : Int) := by omega
          exact congrArg (fun z : Int => [V.ref a, V.int p.2, V.int z]) this
        · unfold ledL
          rw [if_neg z]
          exact ht
theorem sc_ways_back : FnScope ["book", "state", "message", "to"] ["book", "state"] (defScope s_ways_back) := ⟨rfl, rfl, rfl, by decide +kernel, rfl, by decide +kernel, by decide +kernel⟩
def sp_ways_back (K : PySem.W.Frag) : Sp := fun vs H Q _ => ∃ (v : V) (b : Book) (s : Nat), vs = [v, .int s] ∧ BkV K H v b ∧ FormB b ∧ s < b.length ∧ ∀ H', Ext [] H H' → Q (.int (waysM b s)) H'
theorem ok_ways_back (T : Tx K mg) : FnOk P w K mg base CX0 2 T.ways_back.f T.ways_back.fd ["book", "state"] (sp_ways_back K) := by
  refine T.ways_back.F.ok sc_ways_back (fun vs H Q E h => ?_) (fun cdv A outer s H vs Q E hr h => ?_)
  · obtain ⟨v, b, s, rfl, _⟩ := h; rfl
  · obtain ⟨v, b, st, rfl, hb, fb, hs, q⟩ := h
    obtain ⟨a, ls, rfl, ha, hls⟩ := id hb
    have llen := Paired.len hls
    obtain ⟨u, hu, c, ps, rfl, hc, hps⟩ := Paired.get hls (mvs_lt hs)
    have plen := Paired.len hps
    have five := (fb.ok hs).few
    refine ⟨_, (pss_one (ps_ret (pe_callB call_len_seq (by rfl) T.n_len PySem.boot_len (pa_cons (pe_lc (own := [("message", 2), ("to", 3)]) rfl sc_ways_back.nd (pi_tup (pe_ix ix_tup (pv 0) (pv 1) (fun _ _ => rfl))) (blkOk_by (own := [("message", 2), ("to", 3)]) (N := ["book", "state", "message", "to"]) (sc := defScope s_ways_back) (by decide +kernel)) (fun _ _ _ _ _ => (pg_tupK (n := 2) K rfl (pgs_cons (pg_name (i := 2) sc_ways_back.nd rfl (.inl rfl)) (pgs_cons (pg_name (i := 3) sc_ways_back.nd rfl (.inl rfl)) pgs_nil)))) (fun _ _ _ _ _ => pts_one (pt_mid (pt_cmpR (op_in_seqK K) (pv 1) (pe_call (ok_reach T) (hr.mono (by decide)) (by rfl) T.reach.g T.reach.F.kp T.reach.b .nil pass0 (pa_cons (pv 0) (pa_cons (pv 3) (pa_cons (pe_callB (call_len_seqK K) (by rfl) T.n_len PySem.boot_len (pa_cons (pv 0) pa_nil)) pa_nil)))) (by rfl)))) (fun _ _ _ _ _ => (pv 2))) pa_nil)))), ?_⟩
    refine ⟨_, rfl, _, rfl, a, _, _, _, rfl, rfl, ha, atI_nat hu, c, rfl, ⟨_, hc.sq⟩, fun D hD => ?_⟩
    refine lc_tup (K := K) (a := c) (xs := ps.map V.ref) (fun i H' => ∃ xs : List V, H' D = some (.lst xs) ∧ xs.length = (((mvs b st).take i).filter fun p => decide (st ∈ reachL b p.2 b.length)).length ∧ Ext [] H H') ⟨[], upd_same, rfl, .new hD⟩ (fun i H' _ ⟨_, _, _, e⟩ => (e.tz Lsts.nil hc).sq) ?_ ?_
    · rintro i v H' hv ⟨xs, hX, hxl, e⟩
      obtain ⟨g, hg, rfl⟩ := map_at hv
      obtain ⟨p, hp, hcp⟩ := Paired.get' hps hg
      have hm := List.mem_of_getElem? hp
      refine ⟨g, _, rfl, hcp.ext0 e, rfl, _, _, rfl, _, _, rfl, rfl, rfl, ?_⟩
      refine ⟨fun x H3 => x = decide (st ∈ reachL b p.2 b.length) ∧ Ext [] H' H3, ?_, ?_⟩
      · refine ⟨_, rfl, _, rfl, _, rfl, _, rfl, a, _, rfl, .inr (e.tup Lsts.nil ha), .ref a, b, p.2, b.length, by rw [llen]; rfl, hb.ext0 e, fb, fb.to hm, fun t H3 ht e3 => ?_⟩
        exact ⟨t, _, rfl, .inr ht, rfl, flat_nV _, _, rfl, inV_nV st _, e3⟩
      · rintro x H3 ⟨rfl, e3⟩
        have h3 := e3.at hX (by simp)
        refine ifB (fun hf => ?_) (fun hf => ?_)
        · refine ⟨_, rfl, _, h3, ?_, xs ++ [.int p.1], upd_same, ?_, (e.trans e3).put hD⟩
          · rw [hxl]
            refine small1000 (Nat.le_trans (List.length_filter_le _ _) ?_)
            rw [List.length_take]
            omega
          · rw [List.length_append, hxl, filter_take _ hp, hf]
            simp
        · refine ⟨xs, h3, ?_, e.trans e3⟩
          rw [hxl, filter_take _ hp, hf]
          simp
    · rintro H' ⟨xs, hX, hxl, e⟩
      rw [List.length_map, plen, List.take_length] at hxl
      refine ⟨D, xs, rfl, .inl (.of hX), ?_⟩
      have := q H' e
      unfold waysM at this
      rw [← hxl] at this
      exact this
theorem sc_knots : FnScope ["book", "state"] ["book"] (defScope s_knots) := ⟨rfl, rfl, rfl, by decide +kernel, rfl, by decide +kernel, by decide +kernel⟩
def sp_knots (K : PySem.W.Frag) : Sp := fun vs H Q _ => ∃ (v : V) (b : Book), vs = [v] ∧ BkV K H v b ∧ OkB b ∧ ∀ (t : Addr) (H' : Hp), SqT K H' t ((knotsM b).map nV) → Ext [] H H' → Q (.ref t) H'
theorem ok_knots (T : Tx K mg) : FnOk P w K mg base CX0 6 T.knots.f T.knots.fd ["book"] (sp_knots K) := by
  refine T.knots.F.ok sc_knots (fun vs H Q E h => ?_) (fun cdv A outer s H vs Q E hr h => ?_)
  · obtain ⟨v, b, rfl, _⟩ := h; rfl
  · obtain ⟨v, b, rfl, hb, ok, q⟩ := h
    have h8 := ok.eight
    refine ⟨_, (pss_cons (ps_expr (pe_call (ok_made_book T) (hr.mono (by decide)) (by rfl) T.made_book.g T.made_book.F.kp T.made_book.b .nil pass0 (pa_cons (pv 0) pa_nil)))
      (pss_one (ps_ret (pe_callTy call_tupZ (by rfl) T.n_tuple (by decide +kernel) (pa_cons (pe_lc (own := [("state", 1)]) rfl sc_knots.nd (pi_range1 (by rfl) T.n_range (pa_cons (pe_callB call_len_seq (by rfl) T.n_len PySem.boot_len (pa_cons (pv 0) pa_nil)) pa_nil)) (blkOk_by (own := [("state", 1)]) (N := ["book", "state"]) (sc := defScope s_knots) (by decide +kernel)) (fun _ _ _ _ _ => (pg_name (i := 1) sc_knots.nd rfl (.inl rfl))) (fun _ _ _ _ _ => pts_one (pt_mid (pt_cmpR op_gt (pe_call (ok_ways_back T) (hr.mono (by decide)) (by rfl) T.ways_back.g T.ways_back.F.kp T.ways_back.b .nil pass0 (pa_cons (pv 0) (pa_cons (pv 1) pa_nil))) pe_int (nomark _)))) (fun _ _ _ _ _ => (pv 1))) pa_nil))))), ?_⟩
    refine ⟨_, rfl, v, b, rfl, hb, ok, fun H1 e1 => ?_⟩
    have hb1 := hb.ext0 e1
    obtain ⟨a, ls, rfl, ha, hls⟩ := id hb1
    have llen := Paired.len hls
    refine ⟨_, rfl, a, _, rfl, .inr ha, _, rfl, by omega, by omega, fun D hD => ?_⟩
    rw [forTo llen]
    refine filt_range (fun s => decide (1 < waysM b s)) hD (by omega) (fun v => rfl) (fun v => rfl) (fun k H' hk e => ?_) (fun H' h e => ?_)
    · refine ⟨_, rfl, _, rfl, .ref a, b, k, rfl, hb1.ext0 e, ok.toFormB, hk, fun H3 e3 => ⟨_, _, rfl, rfl, _, rfl, ?_, e3⟩⟩
      refine decide_eq_decide.mpr ?_
      omega
    · refine ⟨D, _, rfl, .of h, fun t H2 ht hH => ?_⟩
      obtain ⟨o, _, rfl⟩ := hH
      exact q t _ (.inl (.inr ⟨o, upd_same⟩)) ((e1.trans e).put2 ht)
theorem sc_leading_to : FnScope ["book", "state", "window", "goals", "out", "message", "to", "ends", "end"] ["book", "state", "window", "goals"] (defScope s_leading_to) := ⟨rfl, rfl, rfl, by decide +kernel, rfl, by decide +kernel, by decide +kernel⟩
def sp_leading_to (K : PySem.W.Frag) : Sp := fun vs H Q _ => ∃ (v : V) (b : Book) (s W : Nat) (g : Addr) (goals : List Nat), vs = [v, .int s, .int W, .ref g] ∧ BkV K H v b ∧ FormB b ∧ s < b.length ∧ 1 ≤ W ∧ SqL K H g (goals.map nV) ∧ ∀ (t : Addr) (H' : Hp), H' t = some (.lst ((leadM b W s goals).map nV)) → Ext [] H H' → Q (.ref t) H'
theorem ok_leading_to (T : Tx K mg) : FnOk P w K mg base CX0 3 T.leading_to.f T.leading_to.fd ["book", "state", "window", "goals"] (sp_leading_to K) := by
  refine T.leading_to.F.ok sc_leading_to (fun vs H Q E h => ?_) (fun cdv A outer s H vs Q E hr h => ?_)
  · obtain ⟨v, b, s, W, g, goals, rfl, _⟩ := h; rfl
  · obtain ⟨v, b, st, W, g, goals, rfl, hb, fb, hs, hW, hg, q⟩ := h
    obtain ⟨a, ls, rfl, ha, hls⟩ := id hb
    obtain ⟨u, hu, c, ps, rfl, hc, hps⟩ := Paired.get hls (mvs_lt hs)
    have plen := Paired.len hps
    have five := (fb.ok hs).few
    have h8 := fb.eight
    refine ⟨_, (pss_cons (ps_set (i := 4) sc_leading_to.nd rfl (.inl rfl) (pe_lst pa_nil))
      (pss_cons (ps_for PassesOwn.never rfl (pi_tup (pe_ix ix_tup (pv 0) (pv 1) (fun _ _ => rfl))) (pg_tup rfl (pgs_cons (pg_name (i := 5) sc_leading_to.nd rfl (.inl rfl)) (pgs_cons (pg_name (i := 6) sc_leading_to.nd rfl (.inl rfl)) pgs_nil)))
        (pss_cons (ps_set (i := 7) sc_leading_to.nd rfl (.inl rfl) (pe_call (ok_led_to T) (hr.mono (by decide)) (by rfl) T.led_to.g T.led_to.F.kp T.led_to.b .nil pass0 (pa_cons (pv 0) (pa_cons (pv 1) (pa_cons (pv 5) (pa_cons (pe_op op_sub (pv 2) pe_int) pa_nil))))))
        (pss_one (ps_if (pt_val (pe_callB (cr_any rfl) (by rfl) T.n_any (by decide +kernel) (pa_cons (pe_lc (own := [("end", 8)]) rfl sc_leading_to.nd (pi_tup (pv 7)) (blkOk_by (own := [("end", 8)]) (N := ["book", "state", "window", "goals", "out", "message", "to", "ends", "end"]) (sc := defScope s_leading_to) (by decide +kernel)) (fun _ _ _ _ _ => (pg_name (i := 8) sc_leading_to.nd rfl (.inl rfl))) (fun _ _ _ _ _ => pts_nil) (fun _ _ _ _ _ => (pe_cmpR (op_in_seqK K) (pv 8) (pv 3) (by rfl)))) pa_nil)))
          (pss_one (ps_expr (pe_bm PySem.F.plainAttrs_list PySem.F.slot_list_append PySem.F.type_list_append mt_append (pv 4) (pa_cons (pv 5) pa_nil))))
          pss_nil))))
      (pss_one (ps_ret (pv 4))))), ?_⟩
    refine ⟨Nat.zero_le _, fun o ho => ?_⟩
    have e0 : Ext [] H (upd H o (.lst [])) := .new ho
    refine ⟨_, rfl, _, rfl, a, _, _, _, rfl, rfl, e0.tup Lsts.nil ha, atI_nat hu, c, rfl, ⟨_, (e0.tz Lsts.nil hc).sq⟩, ?_⟩
    refine for_tup (K := K) (a := c) (xs := ps.map V.ref) (fun i σ H' => ∃ y5 y6 y7 : Option V, σ = [some (.ref a), some (.int st), some (.int W), some (.ref g), some (.ref o), y5, y6, y7, none] ∧ H' o = some (.lst (((((mvs b st).take i).filter fun p => (ledL b p.2 (W - 1)).any fun k => decide (k ∈ goals)).map (·.1)).map nV)) ∧ Ext [] H H')
      ⟨_, _, _, rfl, upd_same, e0⟩ (fun i σ H' _ ⟨_, _, _, _, _, e⟩ => (e.tz Lsts.nil hc).sq) ?_ ?_
    · rintro i v σ H' hv ⟨y5, y6, y7, rfl, hO, e⟩
      obtain ⟨gg, hgg, rfl⟩ := map_at hv
      obtain ⟨p, hp, hcp⟩ := Paired.get' hps hgg
      have hm := List.mem_of_getElem? hp
      refine ⟨gg, _, rfl, hcp.ext0 e, rfl, _, _, rfl, _, _, rfl, rfl, ?_⟩
      refine ⟨_, rfl, _, rfl, _, rfl, _, rfl, _, _, rfl, rfl, .ref a, b, st, W - 1, p, ?_, hb.ext0 e, fb, hm, fun t H1 ht e1 => ?_⟩
      · have : ((W : Int)) - 1 = ((W - 1 : Nat) : Int) := by omega
        exact congrArg (fun z : Int => [V.ref a, V.int st, V.int p.1, V.int z]) this
      -- any([..])
      have llt := ledL_lt (m := W - 1) (fb.to hm)
      refine ⟨_, rfl, t, rfl, ⟨_, ht⟩, fun D hD => ?_⟩
      have hO1 := e1.at hO (by simp)
      refine lc_tup (K := K) (a := t) (xs := (ledL b p.2 (W - 1)).map nV) (fun j H2 => H2 D = some (.lst ((((ledL b p.2 (W - 1)).take j).map fun k => decide (k ∈ goals)).map V.bl)) ∧ Ext [] H1 H2) ⟨upd_same, .new hD⟩ (fun j H2 _ ⟨_, e⟩ => e.tup Lsts.nil ht) ?_ ?_
      · rintro j v H2 hv ⟨hD2, e2⟩
        obtain ⟨k, hk, rfl⟩ := map_at hv
        refine ⟨rfl, yes ?_⟩
        refine ⟨_, rfl, _, rfl, g, _, rfl, .inl (((e.trans e1).trans e2).frz (by simp) hg), rfl, flat_nV _, _, hD2, ?_, ?_, e2.put hD⟩
        · rw [List.length_map, List.length_map, List.length_take]
          have l1 : (ledL b p.2 (W - 1)).length ≤ b.length := by
            unfold ledL
            split
            · exact Nat.zero_le _
            · exact wiL_len (fb.to hm) _
          exact small1000 (by omega)
        · rw [upd_same, List.take_add_one, hk, List.map_append, List.map_append]
          show _ = some (HO.lst (_ ++ [V.bl (decide (k ∈ goals))]))
          rw [← inV_nV]
          rfl
      · rintro H2 ⟨hD2, e2⟩
        rw [List.length_map, List.take_length] at hD2
        have hO2 := e2.at hO1 (by simp)
        have ee := (e.trans e1).trans e2
        refine ⟨D, _, rfl, .of hD2, _, rfl, ?_⟩
        have ean : (((ledL b p.2 (W - 1)).map fun k => decide (k ∈ goals)).any id) = (ledL b p.2 (W - 1)).any fun k => decide (k ∈ goals) := by rw [List.any_map]; rfl
        rw [ean]
        have oD : o ≠ D := ne_of_none hO1 hD
        refine ifB (fun hf => ?_) (fun hf => ?_)
        · refine ⟨_, rfl, .inl ⟨rfl, _, .of hO2⟩, _, rfl, o, _, _, rfl, rfl, hO2, ?_, _, _, _, rfl, ?_, ee.put ho⟩
          · rw [List.length_map, List.length_map]
            refine small1000 (Nat.le_trans (List.length_filter_le _ _) ?_)
            rw [List.length_take]
            omega
          · rw [upd_same, filter_take _ hp, hf]
            simp
        · refine ⟨_, _, _, rfl, ?_, ee⟩
          rw [hO2, filter_take _ hp, hf]
          simp
    · rintro σ H' ⟨y5, y6, y7, rfl, hO, e⟩
      rw [List.length_map, plen, List.take_length] at hO
      exact ⟨_, rfl, q o H' hO e⟩
theorem sc_made_window : FnScope ["thing"] ["thing"] (defScope s_made_window) := ⟨rfl, rfl, rfl, by decide +kernel, rfl, by decide +kernel, by decide +kernel⟩
def sp_made_window : Sp := fun vs H Q _ => ∃ W : Nat, vs = [.int W] ∧ 1 ≤ W ∧ Q (.int W) H
theorem ok_made_window (T : Tx K mg) : FnOk P w K mg base CX0 2 T.made_window.f T.made_window.fd ["thing"] sp_made_window := by
  refine T.made_window.F.ok sc_made_window (fun vs H Q E h => ?_) (fun cdv A outer s H vs Q E hr h => ?_)
  · obtain ⟨W, rfl, _⟩ := h; rfl
  · obtain ⟨W, rfl, hW, q⟩ := h
    refine ⟨_, (pss_cons (ps_if (PW.pt (pw_and (pt_cmpR op_notN (pv 0) pe_non (nomark _)) (pw_and1 (PW.pt (pw_or (pt_not (pt_val (pe_call (ok_whole T) (hr.mono (by decide)) (by rfl) T.whole.g T.whole.F.kp T.whole.b .nil pass0 (pa_cons (pv 0) pa_nil)))) (pw_or1 (pt_cmpR op_lt (pv 0) pe_int (nomark _))))))))
        (pss_one ps_never)
        pss_nil)
      (pss_one (ps_ret (pv 0)))), ?_⟩
    refine ⟨_, rfl, rfl, _, rfl, iteNS' (by intro z; cases z) ?_⟩
    refine ⟨_, rfl, _, rfl, _, rfl, notF rfl ⟨_, rfl, _, _, rfl, rfl, _, rfl, ?_⟩⟩
    rw [decide_eq_false (by omega)]
    exact iteF ⟨_, rfl, q⟩
theorem sc_check_number : FnScope ["window"] ["window"] (defScope s_check_number) := ⟨rfl, rfl, rfl, by decide +kernel, rfl, by decide +kernel, by decide +kernel⟩
def sp_check_number : Sp := fun vs H Q _ => ∃ W : Nat, vs = [.int W] ∧ 1 ≤ W ∧ Q .non H
theorem ok_check_number (T : Tx K mg) : FnOk P w K mg base CX0 3 T.check_number.f T.check_number.fd ["window"] sp_check_number := by
  refine T.check_number.F.ok sc_check_number (fun vs H Q E h => ?_) (fun cdv A outer s H vs Q E hr h => ?_)
  · obtain ⟨W, rfl, _⟩ := h; rfl
  · obtain ⟨W, rfl, hW, q⟩ := h
    refine ⟨_, (pss_one (ps_if (pt_cmpR op_isN (pe_call (ok_made_window T) (hr.mono (by decide)) (by rfl) T.made_window.g T.made_window.F.kp T.made_window.b .nil pass0 (pa_cons (pv 0) pa_nil)) pe_non (nomark _))
        (pss_one ps_never)
        pss_nil)), ?_⟩
    refine ⟨_, rfl, W, rfl, hW, rfl, _, rfl, ?_⟩
    rw [decide_eq_false (by intro z; cases z)]
    exact iteF q
end
end Nv
set_option Elab.async false
set_option linter.all false
set_option maxRecDepth 100000
namespace Nv
open PySem PySem.Spec PyProof.Rows L2
section
variable {P : Program} {w : World} {K : PySem.W.Frag} {mg : Str → Option Value} {base : Heap}
/-! ### ranks, lasting forks, the least number -/
def oV : Option Int → V
  | none => .non
  | some i => .int i
theorem sc_ranks_for : FnScope ["book", "window", "rank_of", "standing", "turn", "falling", "fork"] ["book", "window"] (defScope s_ranks_for) := ⟨rfl, rfl, rfl, by decide +kernel, rfl, by decide +kernel, by decide +kernel⟩
def sp_ranks_for (K : PySem.W.Frag) : Sp := fun vs H Q _ => ∃ (v : V) (b : Book) (W : Nat), vs = [v, .int W] ∧ BkV K H v b ∧ FormB b ∧ 1 ≤ W ∧ ∀ (res : List (Option Int)) (fin : List Nat) (t : Addr) (H' : Hp), LastM b W res fin → SqT K H' t (res.map oV) → Ext [] H H' → Q (.ref t) H'
theorem ok_ranks_for (T : Tx K mg) : FnOk P w K mg base CX0 4 T.ranks_for.f T.ranks_for.fd ["book", "window"] (sp_ranks_for K) := by
  refine T.ranks_for.F.ok sc_ranks_for (fun vs H Q E h => ?_) (fun cdv A outer s H vs Q E hr h => ?_)
  · obtain ⟨v, b, W, rfl, _⟩ := h; rfl
  · obtain ⟨v, b, W, rfl, hb, fb, hW, q⟩ := h
    obtain ⟨a, ls, rfl, ha, hls⟩ := id hb
    have llen := Paired.len hls
    have h8 := fb.eight
    refine ⟨_, (pss_cons (ps_set (i := 2) sc_ranks_for.nd rfl (.inl rfl) (pe_op op_rep (pe_lst (pa_cons pe_non pa_nil)) (pe_callB call_len_seq (by rfl) T.n_len PySem.boot_len (pa_cons (pv 0) pa_nil))))
      (pss_cons (ps_set (i := 3) sc_ranks_for.nd rfl (.inr rfl) (pe_callTy call_list_of (by rfl) T.n_list (by decide +kernel) (pa_cons (pe_call (ok_fork_states T) (hr.mono (by decide)) (by rfl) T.fork_states.g T.fork_states.F.kp T.fork_states.b .nil pass0 (pa_cons (pv 0) pa_nil)) pa_nil)))
      (pss_cons (ps_set (i := 4) sc_ranks_for.nd rfl (.inl rfl) pe_int)
      (pss_cons (ps_while PassesOwn.never (pt_val pe_bl)
        (pss_cons (ps_set (i := 5) sc_ranks_for.nd rfl (.inr rfl) (pe_lc (own := [("fork", 6)]) rfl sc_ranks_for.nd (pi_list (pv 3)) (blkOk_by (own := [("fork", 6)]) (N := ["book", "window", "rank_of", "standing", "turn", "falling", "fork"]) (sc := defScope s_ranks_for) (by decide +kernel)) (fun _ _ _ _ _ => (pg_name (i := 6) sc_ranks_for.nd rfl (.inl rfl))) (fun _ _ _ _ _ => pts_one (pt_mid (pt_cmpR op_lt (pe_callB (call_len_seqK K) (by rfl) T.n_len PySem.boot_len (pa_cons (pe_call (ok_leading_to T) (hr.mono (by decide)) (by rfl) T.leading_to.g T.leading_to.F.kp T.leading_to.b .nil pass0 (pa_cons (pv 0) (pa_cons (pv 6) (pa_cons (pv 1) (pa_cons (pv 3) pa_nil))))) pa_nil)) pe_int (nomark _)))) (fun _ _ _ _ _ => (pv 6))))
        (pss_cons (ps_if (pt_not (pt_truth (pv 5) (by intro _; rfl)))
          (pss_one ps_break)
          pss_nil)
        (pss_cons (ps_for PassesOwn.never rfl (pi_list (pv 5)) (pg_name (i := 6) sc_ranks_for.nd rfl (.inl rfl))
          (pss_one (ps_asg (pv 4) (pg_sub (pv 2) (pv 6) set_list))))
        (pss_cons (ps_set (i := 3) sc_ranks_for.nd rfl (.inr rfl) (pe_lc (own := [("fork", 6)]) rfl sc_ranks_for.nd (pi_list (pv 3)) (blkOk_by (own := [("fork", 6)]) (N := ["book", "window", "rank_of", "standing", "turn", "falling", "fork"]) (sc := defScope s_ranks_for) (by decide +kernel)) (fun _ _ _ _ _ => (pg_name (i := 6) sc_ranks_for.nd rfl (.inl rfl))) (fun _ _ _ _ _ => pts_one (pt_mid (pt_cmpR (op_notIn_seqK K) (pv 6) (pv 5) (by rfl)))) (fun _ _ _ _ _ => (pv 6))))
        (pss_one (ps_aug (i := 4) sc_ranks_for.nd rfl (.inl rfl) pe_int ip_add)))))))
      (pss_cons (ps_for PassesOwn.never rfl (pi_list (pv 3)) (pg_name (i := 6) sc_ranks_for.nd rfl (.inl rfl))
        (pss_one (ps_asg (pe_un un_neg pe_int) (pg_sub (pv 2) (pv 6) set_list))))
      (pss_one (ps_ret (pe_callTy call_tupZ (by rfl) T.n_tuple (by decide +kernel) (pa_cons (pv 2) pa_nil))))))))), ?_⟩
    -- rank_of = [None] * len(book)
    refine ⟨(by show 1 ≤ sizeLine; decide), fun x hx => ?_⟩
    have e0 : Ext [] H (upd H x (.lst [.non])) := .new hx
    refine ⟨_, rfl, a, _, rfl, .inr (e0.tup Lsts.nil ha), x, _, _, rfl, rfl, upd_same, by omega, by omega, ?_, fun ro hro => ?_⟩
    · rw [forTo llen]
      exact Nat.le_of_lt (small1000 (by show 1 * b.length ≤ 1000; omega))
    rw [forTo llen]
    have e1 := e0.trans (Ext.new (L := []) (o := .lst (List.replicate b.length [V.non]).flatten) hro)
    have hro0 : H ro = none := e0.free hro
    have hr1 : upd (upd H x (.lst [.non])) ro (.lst (List.replicate b.length [V.non]).flatten) ro = some (.lst ((List.replicate b.length (none : Option Int)).map oV)) := by
      rw [upd_same, List.map_replicate]
      congr 2
      clear hro e1 llen h8 fb hb q hls ha
      induction b.length with
      | zero => rfl
      | succ n ih => rw [List.replicate_succ, List.flatten_cons, ih, List.replicate_succ]; rfl
    generalize upd (upd H x (.lst [.non])) ro (.lst (List.replicate b.length [V.non]).flatten) = H1 at *
    -- standing = list(fork_states(book))
    refine ⟨_, rfl, .ref a, b, rfl, hb.ext0 e1, h8, fun t H2 ht e2 => ?_⟩
    refine ⟨t, _, rfl, .inr ht, fun so hso => ?_⟩
    have e3 := (e1.trans e2).put2 (o := .lst ((forksM b).map nV)) hso
    have hr2 := e2.at hr1 (by simp)
    have hso0 : H so = none := (e1.trans e2).free hso
    have ros : ro ≠ so := ne_of_none hr2 hso
    -- the rounds
    have fl : (forksM b).length ≤ b.length := by
      unfold forksM
      refine Nat.le_trans (List.length_filter_le _ _) ?_
      rw [List.length_range]
      exact Nat.le_refl _
    refine ⟨fun m σ H' => ∃ (turn : Nat) (st : List Nat) (r : List (Option Int)) (so : Addr) (y5 y6 : Option V), σ = [some (.ref a), some (.int W), some (.ref ro), some (.ref so), some (.int turn), y5, y6] ∧ m = st.length ∧ st.length ≤ 8 ∧ (∀ k ∈ st, k < b.length) ∧ H' ro = some (.lst (r.map oV)) ∧ r.length = b.length ∧
      H' so = some (.lst (st.map nV)) ∧ ro ≠ so ∧ (∀ res fin, Rk b W turn st r res fin → LastM b W res fin) ∧ Ext [] H H',
      ⟨_, 0, forksM b, List.replicate b.length none, so, _, _, rfl, rfl, by omega, fun k hk => (mem_filt.mp hk).1, by rw [upd_ne ros]; exact hr2, List.length_replicate, upd_same, ros, fun _ _ h => h, e3⟩, ?_⟩
    clear e3 hr2 hso0 ros hso ht e2 hr1
    rintro m σ H3 ⟨turn, st, r, so, y5, y6, rfl, rfl, st8, stlt, hR, rlen, hS, ros, hrk, e⟩
    refine ⟨true, rfl, iteT ⟨fun σ H' => ∃ (turn : Nat) (st' : List Nat) (r : List (Option Int)) (so : Addr) (y5 y6 : Option V), σ = [some (.ref a), some (.int W), some (.ref ro), some (.ref so), some (.int turn), y5, y6] ∧ st'.length < st.length ∧ (∀ k ∈ st', k < b.length) ∧ H' ro = some (.lst (r.map oV)) ∧ r.length = b.length ∧
      H' so = some (.lst (st'.map nV)) ∧ ro ≠ so ∧ (∀ res fin, Rk b W turn st' r res fin → LastM b W res fin) ∧ Ext [] H H', ?_, ?_⟩⟩
    · rintro σ' H' ⟨turn, st', r, so, y5, y6, rfl, hlt, h1, h2, h3, h4, h5, h6, h7⟩
      exact ⟨_, hlt, turn, st', r, so, _, _, rfl, rfl, by omega, h1, h2, h3, h4, h5, h6, h7⟩
    -- falling
    refine ⟨_, rfl, so, rfl, ⟨_, .of hS⟩, fun fo hfo => ?_⟩
    have rofo : ro ≠ fo := ne_of_none hR hfo
    have sofo : so ≠ fo := ne_of_none hS hfo
    refine filt_list (K := K) (a := so) (l := st) (fun f => decide ((leadM b W f st).length < 2)) hfo (.of hS) (by omega) (fun v => rfl) (fun v => rfl) (fun k H' hk e2 => ?_) (fun H4 hF e2 => ?_)
    · refine ⟨_, rfl, _, rfl, _, rfl, _, rfl, .ref a, b, k, W, so, st, rfl, hb.ext0 (e.trans e2), fb, stlt k hk, hW, .of (e2.at hS (by simp)), fun t H5 ht e5 => ?_⟩
      refine ⟨t, _, rfl, .inl (.of ht), _, _, rfl, rfl, _, rfl, ?_, e5⟩
      rw [List.length_map]
      refine decide_eq_decide.mpr ?_
      omega
    · have e3 := e.trans e2
      have hR4 := e2.at hR (by simp)
      have hS4 := e2.at hS (by simp)
      -- if not falling: break
      have nR : H ro = none := hro0
      refine ⟨_, rfl, _, .inl ⟨_, .of hF, rfl⟩, ?_⟩
      have em : ((fallM b W st).map nV).isEmpty = (fallM b W st).isEmpty := by cases fallM b W st <;> rfl
      show (if (!(!((fallM b W st).map nV).isEmpty)) = true then _ else _)
      rw [em, Bool.not_not]
      refine ifB (fun hemp => ?_) (fun hemp => ?_)
      · -- the end
        have hemp : fallM b W st = [] := List.isEmpty_iff.mp hemp
        refine ⟨_, rfl, so, rfl, ⟨_, .of hS4⟩, for_list (K := K) (a := so) (xs := st.map nV) (fun k σ H' => ∃ y6 : Option V, σ = [some (.ref a), some (.int W), some (.ref ro), some (.ref so), some (.int turn), some (.ref fo), y6] ∧ H' ro = some (.lst ((setAll r (st.take k) (-1)).map oV)) ∧ H' so = some (.lst (st.map nV)) ∧ Ext [] H H')
          ⟨_, rfl, hR4, hS4, e3⟩ (fun k σ H' _ ⟨_, _, _, h, _⟩ => .of h) ?_ ?_⟩
        · rintro k v σ H' hv ⟨y6, rfl, h1, h2, h3⟩
          obtain ⟨f, hf, rfl⟩ := map_at hv
          refine ⟨1, rfl, _, rfl, _, rfl, ro, _, _, f, rfl, rfl, h1, ixNat ?_, _, rfl, ?_, ?_, h3.put nR⟩
          · rw [List.length_map, setAll_len, rlen]
            exact stlt f (List.mem_of_getElem? hf)
          · rw [upd_same, List.take_add_one, hf]
            show _ = some (HO.lst ((setAll r (st.take k ++ [f]) (-1)).map oV))
            rw [setAll_snoc, List.map_set]
            rfl
          · rw [upd_ne ros.symm]
            exact h2
        · rintro σ H' ⟨y6, rfl, h1, h2, h3⟩
          rw [List.length_map, List.take_length] at h1
          refine ⟨_, rfl, ro, _, rfl, .of h1, fun t H5 ht hH => ?_⟩
          obtain ⟨o, _, rfl⟩ := hH
          exact q _ st t _ (hrk _ _ (.stop hemp)) (.inl (.inr ⟨o, upd_same⟩)) (h3.put2 ht)
      · have hemp : fallM b W st ≠ [] := fun z => by rw [z] at hemp; cases hemp
        have fsub : ∀ k ∈ fallM b W st, k < b.length := fun k hk => stlt k (List.mem_filter.mp hk).1
        -- for fork in falling
        refine ⟨_, rfl, fo, rfl, ⟨_, .of hF⟩, for_list (K := K) (a := fo) (xs := (fallM b W st).map nV) (fun k σ H' => ∃ y6 : Option V, σ = [some (.ref a), some (.int W), some (.ref ro), some (.ref so), some (.int turn), some (.ref fo), y6] ∧ H' ro = some (.lst ((setAll r ((fallM b W st).take k) turn).map oV)) ∧ H' so = some (.lst (st.map nV)) ∧ H' fo = some (.lst ((fallM b W st).map nV)) ∧ Ext [] H H')
          ⟨_, rfl, hR4, hS4, hF, e3⟩ (fun k σ H' _ ⟨_, _, _, _, h, _⟩ => .of h) ?_ ?_⟩
        · rintro k v σ H' hv ⟨y6, rfl, h1, h2, h2', h3⟩
          obtain ⟨f, hf, rfl⟩ := map_at hv
          refine ⟨_, rfl, _, rfl, _, rfl, ro, _, _, f, rfl, rfl, h1, ixNat ?_, _, rfl, ?_, ?_, ?_, h3.put nR⟩
          · rw [List.length_map, setAll_len, rlen]
            exact fsub f (List.mem_of_getElem? hf)
          · rw [upd_same, List.take_add_one, hf]
            show _ = some (HO.lst ((setAll r ((fallM b W st).take k ++ [f]) turn).map oV))
            rw [setAll_snoc, List.map_set]
            rfl
          · rw [upd_ne ros.symm]
            exact h2
          · rw [upd_ne rofo.symm]
            exact h2'
        · rintro σ H5 ⟨y6, rfl, h1, h2, h2', h3⟩
          rw [List.length_map, List.take_length] at h1
          -- standing
          refine ⟨_, rfl, so, rfl, ⟨_, .of h2⟩, fun s2 hs2 => ?_⟩
          have ros2 : ro ≠ s2 := ne_of_none h1 hs2
          refine filt_list (K := K) (a := so) (l := st) (fun f => !decide (f ∈ fallM b W st)) hs2 (.of h2) (by omega) (fun v => rfl) (fun v => rfl) (fun k H' hk e2 => ?_) (fun H6 hS6 e6 => ?_)
          · refine ⟨_, rfl, _, rfl, fo, _, rfl, .inl (.of (e2.at h2' (by simp))), rfl, flat_nV _, _, rfl, ?_, .refl⟩
            show (!inV (nV k) ((fallM b W st).map nV)) = _
            rw [inV_nV]
          · refine ⟨_, rfl, _, _, rfl, rfl, turn + 1, restM b W st, setAll r (fallM b W st) turn, s2, _, _, rfl, rest_len hemp, fun k hk => stlt k (List.mem_filter.mp hk).1, e6.at h1 (by simp), by rw [setAll_len]; exact rlen, hS6, ros2, fun res fin h => hrk res fin (.go hemp h), h3.trans e6⟩
theorem sc_lasting_for : FnScope ["book", "window", "rank_of", "state"] ["book", "window"] (defScope s_lasting_for) := ⟨rfl, rfl, rfl, by decide +kernel, rfl, by decide +kernel, by decide +kernel⟩
def sp_lasting_for (K : PySem.W.Frag) : Sp := fun vs H Q _ => ∃ (v : V) (b : Book) (W : Nat), vs = [v, .int W] ∧ BkV K H v b ∧ FormB b ∧ 1 ≤ W ∧ ∀ (res : List (Option Int)) (fin : List Nat) (t : Addr) (H' : Hp), LastM b W res fin → SqT K H' t ((lastL b res).map nV) → Ext [] H H' → Q (.ref t) H'
theorem ok_lasting_for (T : Tx K mg) : FnOk P w K mg base CX0 5 T.lasting_for.f T.lasting_for.fd ["book", "window"] (sp_lasting_for K) := by
  refine T.lasting_for.F.ok sc_lasting_for (fun vs H Q E h => ?_) (fun cdv A outer s H vs Q E hr h => ?_)
  · obtain ⟨v, b, W, rfl, _⟩ := h; rfl
  · obtain ⟨v, b, W, rfl, hb, fb, hW, q⟩ := h
    have h8 := fb.eight
    refine ⟨_, (pss_cons (ps_set (i := 2) sc_lasting_for.nd rfl (.inr rfl) (pe_call (ok_ranks_for T) (hr.mono (by decide)) (by rfl) T.ranks_for.g T.ranks_for.F.kp T.ranks_for.b .nil pass0 (pa_cons (pv 0) (pa_cons (pv 1) pa_nil))))
      (pss_one (ps_ret (pe_callTy call_tupZ (by rfl) T.n_tuple (by decide +kernel) (pa_cons (pe_lc (own := [("state", 3)]) rfl sc_lasting_for.nd (pi_range1 (by rfl) T.n_range (pa_cons (pe_callB call_len_seq (by rfl) T.n_len PySem.boot_len (pa_cons (pv 0) pa_nil)) pa_nil)) (blkOk_by (own := [("state", 3)]) (N := ["book", "window", "rank_of", "state"]) (sc := defScope s_lasting_for) (by decide +kernel)) (fun _ _ _ _ _ => (pg_name (i := 3) sc_lasting_for.nd rfl (.inl rfl))) (fun _ _ _ _ _ => pts_one (pt_mid (pt_cmpR op_eq (pe_ix (ix_tupK K) (pv 2) (pv 3) (fun _ _ => rfl)) (pe_un un_neg pe_int) (nomark _)))) (fun _ _ _ _ _ => (pv 3))) pa_nil))))), ?_⟩
    refine ⟨_, rfl, _, rfl, v, b, W, rfl, hb, fb, hW, fun res fin t H1 hL ht e1 => ?_⟩
    obtain ⟨a, ls, rfl, ha, hls⟩ := hb.ext0 e1
    have llen := Paired.len hls
    have rl : res.length = b.length := by rw [rk_len hL, List.length_replicate]
    refine ⟨_, rfl, a, _, rfl, .inr ha, _, rfl, by omega, by omega, fun D hD => ?_⟩
    rw [forTo llen]
    refine filt_range (fun s => decide (res[s]? = some (some (-1)))) hD (by omega) (fun v => rfl) (fun v => rfl) (fun k H' hk e => ?_) (fun H' h e => ?_)
    · have hk2 : res[k]? = some res[k] := List.getElem?_eq_getElem (by omega)
      generalize res[k] = x at hk2
      refine ⟨_, rfl, _, rfl, t, _, _, _, rfl, rfl, e.tup Lsts.nil ht, atI_nat (at_map hk2), 1, rfl, by cases x <;> rfl, _, rfl, ?_, .refl⟩
      rw [hk2]
      refine decide_eq_decide.mpr ?_
      cases x with
      | none => exact ⟨fun z => (nomatch z), fun z => (nomatch z)⟩
      | some i =>
        constructor
        · intro z
          have z : i = -1 := V.int.inj z
          rw [z]
        · intro z
          have z : i = -1 := Option.some.inj (Option.some.inj z)
          rw [z]
          rfl
    · refine ⟨D, _, rfl, .of h, fun t2 H2 ht2 hH => ?_⟩
      obtain ⟨o, _, rfl⟩ := hH
      exact q res fin t2 _ hL (.inl (.inr ⟨o, upd_same⟩)) ((e1.trans e).put2 ht2)
theorem sc_lasting : FnScope ["book", "window"] ["book", "window"] (defScope s_lasting) := ⟨rfl, rfl, rfl, by decide +kernel, rfl, by decide +kernel, by decide +kernel⟩
def sp_lasting (K : PySem.W.Frag) : Sp := fun vs H Q _ => ∃ (v : V) (b : Book) (W : Nat), vs = [v, .int W] ∧ BkV K H v b ∧ OkB b ∧ 1 ≤ W ∧ ∀ (res : List (Option Int)) (fin : List Nat) (t : Addr) (H' : Hp), LastM b W res fin → SqT K H' t ((lastL b res).map nV) → Ext [] H H' → Q (.ref t) H'
theorem ok_lasting (T : Tx K mg) : FnOk P w K mg base CX0 6 T.lasting.f T.lasting.fd ["book", "window"] (sp_lasting K) := by
  refine T.lasting.F.ok sc_lasting (fun vs H Q E h => ?_) (fun cdv A outer s H vs Q E hr h => ?_)
  · obtain ⟨v, b, W, rfl, _⟩ := h; rfl
  · obtain ⟨v, b, W, rfl, hb, ok, hW, q⟩ := h
    refine ⟨_, (pss_cons (ps_expr (pe_call (ok_made_book T) (hr.mono (by decide)) (by rfl) T.made_book.g T.made_book.F.kp T.made_book.b .nil pass0 (pa_cons (pv 0) pa_nil)))
      (pss_cons (ps_expr (pe_call (ok_check_number T) (hr.mono (by decide)) (by rfl) T.check_number.g T.check_number.F.kp T.check_number.b .nil pass0 (pa_cons (pv 1) pa_nil)))
      (pss_one (ps_ret (pe_call (ok_lasting_for T) (hr.mono (by decide)) (by rfl) T.lasting_for.g T.lasting_for.F.kp T.lasting_for.b .nil pass0 (pa_cons (pv 0) (pa_cons (pv 1) pa_nil))))))), ?_⟩
    refine ⟨_, rfl, v, b, rfl, hb, ok, fun H1 e1 => ?_⟩
    refine ⟨_, rfl, W, rfl, hW, ?_⟩
    exact ⟨_, rfl, _, rfl, v, b, W, rfl, hb.ext0 e1, ok.toFormB, hW, fun res fin t H' hL ht e => q res fin t H' hL ht (e1.trans e)⟩
theorem sc_least_for : FnScope ["book", "window"] ["book", "window"] (defScope s_least_for) := ⟨rfl, rfl, rfl, by decide +kernel, rfl, by decide +kernel, by decide +kernel⟩
def sp_least_for (K : PySem.W.Frag) : Sp := fun vs H Q _ => ∃ (v : V) (b : Book) (W : Nat), vs = [v, .int W] ∧ BkV K H v b ∧ FormB b ∧ 1 ≤ W ∧ ∀ (res : List (Option Int)) (fin : List Nat) (H' : Hp), LastM b W res fin → Ext [] H H' → Q (.int (leastM b res)) H'
theorem ok_least_for (T : Tx K mg) : FnOk P w K mg base CX0 6 T.least_for.f T.least_for.fd ["book", "window"] (sp_least_for K) := by
  refine T.least_for.F.ok sc_least_for (fun vs H Q E h => ?_) (fun cdv A outer s H vs Q E hr h => ?_)
  · obtain ⟨v, b, W, rfl, _⟩ := h; rfl
  · obtain ⟨v, b, W, rfl, hb, fb, hW, q⟩ := h
    obtain ⟨a, ls, rfl, ha, hls⟩ := id hb
    obtain ⟨res0, fin0, hL0⟩ := rk_ex b W _ 0 (forksM b) (List.replicate b.length none) (Nat.le_refl _)
    obtain ⟨u, hu, c, ps, rfl, hc, hps⟩ := Paired.get hls (mvs_lt (b := b) (s := 0) fb.one)
    refine ⟨_, (pss_cons (ps_if (pt_not (pt_truth (pe_ix ix_tup (pv 0) pe_int (fun _ _ => rfl)) (by intro _; rfl)))
        (pss_one (ps_ret pe_int))
        pss_nil)
      (pss_cons (ps_if (pt_not (pt_truth (pe_call (ok_fork_states T) (hr.mono (by decide)) (by rfl) T.fork_states.g T.fork_states.F.kp T.fork_states.b .nil pass0 (pa_cons (pv 0) pa_nil)) (by intro _; rfl)))
        (pss_one (ps_ret pe_int))
        pss_nil)
      (pss_cons (ps_if (pt_cmpR op_isN (pv 1) pe_non (nomark _))
        (pss_one ps_never)
        pss_nil)
      (pss_cons (ps_if (pt_truth (pe_call (ok_lasting_for T) (hr.mono (by decide)) (by rfl) T.lasting_for.g T.lasting_for.F.kp T.lasting_for.b .nil pass0 (pa_cons (pv 0) (pa_cons (pv 1) pa_nil))) (by intro _; rfl))
        (pss_one (ps_ret pe_int))
        pss_nil)
      (pss_one (ps_ret pe_int)))))), ?_⟩
    refine ⟨_, rfl, a, _, _, _, rfl, rfl, ha, atI_nat (j := 0) hu, _, .inr (.inl ⟨_, hc.sq, rfl⟩), ?_⟩
    show (if (!(!(ps.map V.ref).isEmpty)) = true then _ else _)
    have em : (ps.map V.ref).isEmpty = (mvs b 0).isEmpty := by
      have plen := Paired.len hps
      cases ps <;> cases h : mvs b 0 <;> rw [h] at plen <;> simp at plen <;> rfl
    rw [em, Bool.not_not]
    refine ifB (fun z => ?_) (fun z => ?_)
    · have z : mvs b 0 = [] := List.isEmpty_iff.mp z
      have := q res0 fin0 H hL0 .refl
      unfold leastM at this
      rw [if_pos z] at this
      exact this
    · have z : mvs b 0 ≠ [] := fun y => by rw [y] at z; cases z
      refine ⟨_, rfl, .ref a, b, rfl, hb, fb.eight, fun t H1 ht e1 => ⟨_, .inr (.inl ⟨_, ht, rfl⟩), ?_⟩⟩
      show (if (!(!((forksM b).map nV).isEmpty)) = true then _ else _)
      have em : ((forksM b).map nV).isEmpty = (forksM b).isEmpty := by cases forksM b <;> rfl
      rw [em, Bool.not_not]
      refine ifB (fun y => ?_) (fun y => ?_)
      · have y : forksM b = [] := List.isEmpty_iff.mp y
        have := q res0 fin0 H1 hL0 e1
        unfold leastM at this
        rw [if_neg z, if_pos y] at this
        exact this
      · have y : forksM b ≠ [] := fun x => by rw [x] at y; cases y
        refine ⟨_, rfl, rfl, _, rfl, ?_⟩
        rw [decide_eq_false (by intro z; cases z)]
        refine iteF ⟨_, rfl, _, rfl, .ref a, b, W, rfl, hb.ext0 e1, fb, hW, fun res fin t2 H2 hL ht2 e2 => ⟨_, .inr (.inl ⟨_, ht2, rfl⟩), ?_⟩⟩
        show (if (!((lastL b res).map nV).isEmpty) = true then _ else _)
        have em : ((lastL b res).map nV).isEmpty = (lastL b res).isEmpty := by cases lastL b res <;> rfl
        rw [em]
        have := q res fin H2 hL (e1.trans e2)
        unfold leastM at this
        rw [if_neg z, if_neg y] at this
        by_cases x : lastL b res = []
        · rw [if_pos x] at this
          rw [x]
          exact iteF this
        · rw [if_neg x] at this
          have : (lastL b res).isEmpty = false := by cases h : lastL b res with | nil => exact absurd h x | cons _ _ => rfl
          rw [this]
          refine iteT ?_
          assumption
theorem sc_least_wires : FnScope ["book", "window"] ["book", "window"] (defScope s_least_wires) := ⟨rfl, rfl, rfl, by decide +kernel, rfl, by decide +kernel, by decide +kernel⟩
def sp_least_wires (K : PySem.W.Frag) : Sp := fun vs H Q _ => ∃ (v : V) (b : Book) (W : Nat), vs = [v, .int W] ∧ BkV K H v b ∧ OkB b ∧ 1 ≤ W ∧ ∀ (res : List (Option Int)) (fin : List Nat) (H' : Hp), LastM b W res fin → Ext [] H H' → Q (.int (leastM b res)) H'
theorem ok_least_wires (T : Tx K mg) : FnOk P w K mg base CX0 7 T.least_wires.f T.least_wires.fd ["book", "window"] (sp_least_wires K) := by
  refine T.least_wires.F.ok sc_least_wires (fun vs H Q E h => ?_) (fun cdv A outer s H vs Q E hr h => ?_)
  · obtain ⟨v, b, W, rfl, _⟩ := h; rfl
  · obtain ⟨v, b, W, rfl, hb, ok, hW, q⟩ := h
    refine ⟨_, (pss_cons (ps_expr (pe_call (ok_made_book T) (hr.mono (by decide)) (by rfl) T.made_book.g T.made_book.F.kp T.made_book.b .nil pass0 (pa_cons (pv 0) pa_nil)))
      (pss_cons (ps_expr (pe_call (ok_made_window T) (hr.mono (by decide)) (by rfl) T.made_window.g T.made_window.F.kp T.made_window.b .nil pass0 (pa_cons (pv 1) pa_nil)))
      (pss_one (ps_ret (pe_call (ok_least_for T) (hr.mono (by decide)) (by rfl) T.least_for.g T.least_for.F.kp T.least_for.b .nil pass0 (pa_cons (pv 0) (pa_cons (pv 1) pa_nil))))))), ?_⟩
    refine ⟨_, rfl, v, b, rfl, hb, ok, fun H1 e1 => ?_⟩
    refine ⟨_, rfl, W, rfl, hW, ?_⟩
    exact ⟨_, rfl, _, rfl, v, b, W, rfl, hb.ext0 e1, ok.toFormB, hW, fun res fin H' hL e => q res fin H' hL (e1.trans e)⟩
theorem sc_from_window : FnScope ["book", "window"] ["book"] (defScope s_from_window) := ⟨rfl, rfl, rfl, by decide +kernel, rfl, by decide +kernel, by decide +kernel⟩
def sp_from_window (K : PySem.W.Frag) : Sp := fun vs H Q _ => ∃ (v : V) (b : Book), vs = [v] ∧ BkV K H v b ∧ OkB b ∧ ∀ (o : Option Nat) (H' : Hp), FromW b o → Ext [] H H' → Q (oN o) H'
theorem ok_from_window (T : Tx K mg) : FnOk P w K mg base CX0 7 T.from_window.f T.from_window.fd ["book"] (sp_from_window K) := by
  refine T.from_window.F.ok sc_from_window (fun vs H Q E h => ?_) (fun cdv A outer s H vs Q E hr h => ?_)
  · obtain ⟨v, b, rfl, _⟩ := h; rfl
  · obtain ⟨v, b, rfl, hb, ok, q⟩ := h
    refine ⟨_, (pss_cons (ps_expr (pe_call (ok_made_book T) (hr.mono (by decide)) (by rfl) T.made_book.g T.made_book.F.kp T.made_book.b .nil pass0 (pa_cons (pv 0) pa_nil)))
      (pss_cons (ps_for PassesOwn.never rfl (pi_range2 (by rfl) T.n_range (pa_cons pe_int (pa_cons (pe_op op_add (pe_glob (v := .int 9) (by rfl) T.c_LAST_WINDOW.choose_spec ⟨_, rfl⟩) pe_int) pa_nil))) (pg_name (i := 1) sc_from_window.nd rfl (.inl rfl))
        (pss_one (ps_if (pt_cmpR op_eq (pe_call (ok_least_for T) (hr.mono (by decide)) (by rfl) T.least_for.g T.least_for.F.kp T.least_for.b .nil pass0 (pa_cons (pv 0) (pa_cons (pv 1) pa_nil))) pe_int (nomark _))
          (pss_one (ps_ret (pv 1)))
          pss_nil)))
      (pss_one (ps_ret pe_non)))), ?_⟩
    refine ⟨_, rfl, v, b, rfl, hb, ok, fun H1 e1 => ?_⟩
    refine ⟨_, _, rfl, rfl, 1, 10, rfl, ⟨by decide, by decide, by decide, by decide⟩, for_range (lo := 1) (n := 9) (fun i σ H' => (∃ y : Option V, σ = [some v, y]) ∧ (∀ V, 1 ≤ V → V ≤ i → ∀ res fin, LastM b V res fin → leastM b res ≠ 3) ∧ Ext [] H H') ⟨⟨_, rfl⟩, fun V h1 h2 => by omega, e1⟩ ?_ ?_⟩
    · rintro i σ H' hi ⟨⟨y, rfl⟩, hno, e⟩
      have ei : (1 : Int) + (i : Int) = ((i + 1 : Nat) : Int) := by omega
      rw [ei]
      refine ⟨_, rfl, _, rfl, v, b, i + 1, rfl, hb.ext0 e, ok.toFormB, by omega, fun res fin H2 hL e2 => ⟨rfl, _, rfl, ?_⟩⟩
      have hd : decide (V.int (leastM b res : Nat) = V.int 3) = decide (leastM b res = 3) := by
        rw [dec_int]
        refine decide_eq_decide.mpr ?_
        omega
      rw [hd]
      refine ite2 (fun z => ?_) (fun z => ?_)
      · have z := of_decide_eq_true z
        exact ⟨_, rfl, q (some (i + 1)) H2 ⟨by omega, by omega, ⟨res, fin, hL, z⟩, fun V h1 h2 => hno V h1 (by omega)⟩ (e.trans e2)⟩
      · have z : ¬ leastM b res = 3 := fun y => z (decide_eq_true y)
        refine ⟨⟨_, rfl⟩, fun V h1 h2 res' fin' hL' => ?_, e.trans e2⟩
        by_cases h : V ≤ i
        · exact hno V h1 h res' fin' hL'
        · have : V = i + 1 := by omega
          subst this
          rw [← (rk_fun hL hL').1]
          exact z
    · rintro σ H' ⟨⟨y, rfl⟩, hno, e⟩
      exact q none H' hno e
end
end Nv
set_option linter.all false
namespace Nv
/-! ### states on rings -/
def ringsM (b : Book) : List Nat := (List.range b.length).filter fun s => decide (0 < waysM b s)
def ringForksM (b : Book) : List Nat := (forksM b).filter fun s => decide (s ∈ ringsM b)
end Nv
set_option linter.all false
namespace Nv
/-! ### ends, level by level -/
def nextL (b : Book) (L : List Nat) : List Nat := (List.range b.length).filter fun k => L.any fun j => (mvs b j).any fun p => p.2 == k
def exL (b : Book) (s : Nat) : Nat → List Nat
  | 0 => [s]
  | n + 1 => nextL b (exL b s n)
def endsL (b : Book) (s m : Nat) : List Nat := if m = 0 then [] else wiL b s (m - 1)
theorem any_mv {b : Book} {L : List Nat} {k : Nat} : (L.any fun j => (mvs b j).any fun p => p.2 == k) = true ↔ ∃ j ∈ L, ∃ p ∈ mvs b j, p.2 = k := by
  rw [List.any_eq_true]
  constructor
  · rintro ⟨j, hj, h⟩
    obtain ⟨p, hp, e⟩ := List.any_eq_true.mp h
    exact ⟨j, hj, p, hp, by simpa using e⟩
  · rintro ⟨j, hj, p, hp, e⟩
    exact ⟨j, hj, List.any_eq_true.mpr ⟨p, hp, by simpa using e⟩⟩
theorem mem_next {b : Book} (fb : FormB b) {L : List Nat} {k : Nat} : k ∈ nextL b L ↔ ∃ j ∈ L, ∃ p ∈ mvs b j, p.2 = k := by
  unfold nextL
  rw [mem_filt, any_mv]
  constructor
  · exact fun h => h.2
  · rintro ⟨j, hj, p, hp, e⟩
    exact ⟨by rw [← e]; exact fb.to hp, j, hj, p, hp, e⟩
theorem mem_step {b : Book} (fb : FormB b) {L : List Nat} (hL : ∀ k ∈ L, k < b.length) {k : Nat} : k ∈ stepL b L ↔ k ∈ L ∨ ∃ j ∈ L, ∃ p ∈ mvs b j, p.2 = k := by
  unfold stepL nextB
  rw [mem_filt, Bool.or_eq_true, decide_eq_true_eq, any_mv]
  constructor
  · exact fun h => h.2
  · rintro (h | ⟨j, hj, p, hp, e⟩)
    · exact ⟨hL k h, .inl h⟩
    · exact ⟨by rw [← e]; exact fb.to hp, .inr ⟨j, hj, p, hp, e⟩⟩
theorem exL_srt (b : Book) (s : Nat) : ∀ n, (exL b s n).Pairwise (· < ·)
  | 0 => by simp [exL]
  | n + 1 => filt_srt _ _
theorem exL_lt {b : Book} {s : Nat} (hs : s < b.length) : ∀ n, ∀ k ∈ exL b s n, k < b.length
  | 0, k, hk => by rw [List.mem_singleton.mp hk]; exact hs
  | n + 1, k, hk => (mem_filt.mp hk).1
theorem exL_len {b : Book} {s : Nat} (hs : s < b.length) (n : Nat) : (exL b s n).length ≤ b.length := nodup_le (srt_nodup (exL_srt b s n)) (exL_lt hs n)
theorem wi_ex {b : Book} (fb : FormB b) {s : Nat} (hs : s < b.length) : ∀ (n k : Nat), k ∈ wiL b s n ↔ ∃ j, j ≤ n ∧ k ∈ exL b s j := by
  intro n
  induction n with
  | zero =>
    intro k
    constructor
    · exact fun h => ⟨0, Nat.le_refl _, h⟩
    · rintro ⟨j, hj, h⟩
      have : j = 0 := by omega
      subst this
      exact h
  | succ n ih =>
    intro k
    show k ∈ stepL b (wiL b s n) ↔ _
    rw [mem_step fb (wiL_lt hs n)]
    constructor
    · rintro (h | ⟨x, hx, p, hp, e⟩)
      · obtain ⟨j, hj, h⟩ := (ih k).mp h
        exact ⟨j, by omega, h⟩
      · obtain ⟨j, hj, h⟩ := (ih x).mp hx
        exact ⟨j + 1, by omega, (mem_next fb).mpr ⟨x, h, p, hp, e⟩⟩
    · rintro ⟨j, hj, h⟩
      by_cases hjn : j ≤ n
      · exact .inl ((ih k).mpr ⟨j, hjn, h⟩)
      · have : j = n + 1 := by omega
        subst this
        obtain ⟨x, hx, p, hp, e⟩ := (mem_next fb).mp h
        exact .inr ⟨x, (ih x).mpr ⟨n, Nat.le_refl _, hx⟩, p, hp, e⟩
theorem mem_ends {b : Book} (fb : FormB b) {s : Nat} (hs : s < b.length) {m k : Nat} : k ∈ endsL b s m ↔ ∃ j, j < m ∧ k ∈ exL b s j := by
  unfold endsL
  split
  · rename_i h
    constructor
    · intro z; cases z
    · rintro ⟨j, hj, _⟩; omega
  · rw [wi_ex fb hs]
    constructor
    · rintro ⟨j, hj, h⟩
      exact ⟨j, by omega, h⟩
    · rintro ⟨j, hj, h⟩
      exact ⟨j, by omega, h⟩
theorem endsL_srt (b : Book) (s m : Nat) : (endsL b s m).Pairwise (· < ·) := by
  unfold endsL
  split
  · exact .nil
  · exact wiL_srt _ _ _
theorem endsL_lt {b : Book} {s m : Nat} (hs : s < b.length) : ∀ k ∈ endsL b s m, k < b.length := by
  unfold endsL
  split
  · intro k hk; cases hk
  · exact wiL_lt hs _
theorem endsL_len {b : Book} {s m : Nat} (hs : s < b.length) : (endsL b s m).length ≤ b.length := nodup_le (srt_nodup (endsL_srt b s m)) (endsL_lt hs)
/-! ### steps of any number -/
inductive Rt (b : Book) : Nat → Nat → Prop
  | refl (s : Nat) : Rt b s s
  | step {s k : Nat} {p : Nat × Nat} : Rt b s k → p ∈ mvs b k → Rt b s p.2
theorem Rt.trans {b : Book} {x y z : Nat} (h : Rt b x y) (k : Rt b y z) : Rt b x z := by
  induction k with
  | refl => exact h
  | step _ hp ih => exact ih.step hp
theorem Rt.one {b : Book} {x : Nat} {p : Nat × Nat} (hp : p ∈ mvs b x) : Rt b x p.2 := (Rt.refl x).step hp
theorem wi_mono {b : Book} (fb : FormB b) {s : Nat} (hs : s < b.length) {n m : Nat} (h : n ≤ m) {k : Nat} (hk : k ∈ wiL b s n) : k ∈ wiL b s m := by
  obtain ⟨j, hj, e⟩ := (wi_ex fb hs n k).mp hk
  exact (wi_ex fb hs m k).mpr ⟨j, by omega, e⟩
theorem wi_rt {b : Book} (fb : FormB b) {s : Nat} (hs : s < b.length) : ∀ (n k : Nat), k ∈ wiL b s n → Rt b s k := by
  intro n
  induction n with
  | zero => intro k hk; rw [List.mem_singleton.mp hk]; exact .refl s
  | succ n ih =>
    intro k hk
    rcases (mem_step fb (wiL_lt hs n)).mp hk with h | ⟨x, hx, p, hp, e⟩
    · exact ih k h
    · rw [← e]
      exact (ih x hx).step hp
/-- it stays as it is, or grows -/
theorem wi_grow {b : Book} (fb : FormB b) {s : Nat} (hs : s < b.length) : ∀ n, n + 1 ≤ (wiL b s n).length ∨ ∀ m, n ≤ m → wiL b s m = wiL b s n := by
  intro n
  induction n with
  | zero => exact .inl (by simp [wiL])
  | succ n ih =>
    rcases ih with h | h
    · by_cases e : wiL b s (n + 1) = wiL b s n
      · refine .inr fun m hm => ?_
        have key : ∀ d, wiL b s (n + 1 + d) = wiL b s (n + 1) := by
          intro d
          induction d with
          | zero => rfl
          | succ d ih2 =>
            show stepL b (wiL b s (n + 1 + d)) = _
            rw [ih2, e]
            exact e
        have : m = n + 1 + (m - (n + 1)) := by omega
        rw [this]
        exact key _
      · refine .inl ?_
        have sub : ∀ k ∈ wiL b s n, k ∈ wiL b s (n + 1) := fun k hk => wi_mono fb hs (by omega) hk
        have le := List.Nodup.length_le_of_subset (srt_nodup (wiL_srt b s n)) sub
        by_cases eq : (wiL b s n).length = (wiL b s (n + 1)).length
        · exfalso
          refine e (srt_eq (wiL_srt _ _ _) (wiL_srt _ _ _) fun k => ⟨fun hk => ?_, sub k⟩)
          by_cases hin : k ∈ wiL b s n
          · exact hin
          · exfalso
            have nd : (k :: wiL b s n).Nodup := List.nodup_cons.mpr ⟨hin, srt_nodup (wiL_srt b s n)⟩
            have := List.Nodup.length_le_of_subset nd (l₂ := wiL b s (n + 1)) (fun z hz => by
              rcases List.mem_cons.mp hz with hz | hz
              · rw [hz]; exact hk
              · exact sub z hz)
            rw [List.length_cons] at this
            omega
        · omega
    · refine .inr fun m hm => ?_
      rw [h m (by omega), h (n + 1) (by omega)]
/-- within one step less than there are states all is met -/
theorem wi_full {b : Book} (fb : FormB b) {s : Nat} (hs : s < b.length) : ∀ m, b.length - 1 ≤ m → wiL b s m = wiL b s (b.length - 1) := by
  have h1 := fb.one
  rcases wi_grow fb hs (b.length - 1) with h | h
  · intro m hm
    have full : ∀ m, b.length - 1 ≤ m → ∀ k, k ∈ wiL b s m ↔ k < b.length := by
      intro m hm k
      refine ⟨fun hk => wiL_lt hs m k hk, fun hk => ?_⟩
      by_cases hin : k ∈ wiL b s m
      · exact hin
      · exfalso
        have hk2 : k ∉ wiL b s (b.length - 1) := fun z => hin (wi_mono fb hs hm z)
        have nd : (k :: wiL b s (b.length - 1)).Nodup := List.nodup_cons.mpr ⟨hk2, srt_nodup (wiL_srt b s _)⟩
        have := nodup_le (n := b.length) nd (fun z hz => by
          rcases List.mem_cons.mp hz with hz | hz
          · rw [hz]; exact hk
          · exact wiL_lt hs _ z hz)
        rw [List.length_cons] at this
        omega
    refine srt_eq (wiL_srt _ _ _) (wiL_srt _ _ _) fun k => ?_
    rw [full m hm, full _ (Nat.le_refl _)]
  · exact h
theorem rt_wi {b : Book} (fb : FormB b) {s k : Nat} (hs : s < b.length) (h : Rt b s k) : k ∈ wiL b s (b.length - 1) := by
  induction h with
  | refl => exact wi_mono fb hs (Nat.zero_le _) (by simp [wiL])
  | step h hp ih =>
    rw [← wi_full fb hs (b.length - 1 + 1) (by omega)]
    exact (mem_step fb (wiL_lt hs _)).mpr (.inr ⟨_, ih, _, hp, rfl⟩)
theorem mem_wi {b : Book} (fb : FormB b) {s k m : Nat} (hs : s < b.length) (hm : b.length - 1 ≤ m) : k ∈ wiL b s m ↔ Rt b s k := by
  rw [wi_full fb hs m hm]
  exact ⟨fun h => wi_rt fb hs _ k h, rt_wi fb hs⟩
/-- the law's knots -/
def backM (b : Book) (s : Nat) : Nat := ((mvs b s).filter fun p => decide (s ∈ endsL b p.2 8)).length
theorem back_ways {b : Book} (fb : FormB b) (s : Nat) : backM b s = waysM b s := by
  unfold backM waysM
  congr 1
  refine List.filter_congr fun p hp => decide_eq_decide.mpr ?_
  have hp2 := fb.to hp
  have h8 := fb.eight
  show s ∈ wiL b p.2 7 ↔ s ∈ wiL b p.2 (min b.length b.length)
  rw [mem_wi fb hp2 (by omega), mem_wi fb hp2 (by omega)]
theorem knots_law {b : Book} (fb : FormB b) : (List.range b.length).filter (fun s => decide (1 < backM b s)) = knotsM b := by
  unfold knotsM
  refine List.filter_congr fun s _ => ?_
  rw [back_ways fb]
end Nv
set_option Elab.async false
set_option linter.all false
set_option maxRecDepth 100000
namespace Nv
open PySem PySem.Spec PyProof.Rows L2
section
variable {P : Program} {w : World} {K : PySem.W.Frag} {mg : Str → Option Value} {base : Heap}
/-! ### the law's own ends -/
theorem sc_law_is_whole : FnScope ["thing"] ["thing"] (defScope s_law_is_whole) := ⟨rfl, rfl, rfl, by decide +kernel, rfl, by decide +kernel, by decide +kernel⟩
theorem sc_law_win_ends : FnScope ["book", "first", "many", "found", "level", "turn", "ahead", "state", "message", "to"] ["book", "first", "many"] (defScope s_law_win_ends) := ⟨rfl, rfl, rfl, by decide +kernel, rfl, by decide +kernel, by decide +kernel⟩
def sp_law_win_ends (K : PySem.W.Frag) : Sp := fun vs H Q _ => ∃ (v : V) (b : Book) (s m : Nat), vs = [v, .int s, .int m] ∧ BkV K H v b ∧ FormB b ∧ s < b.length ∧ ∀ (t : Addr) (H' : Hp), H' t = some (.lst ((endsL b s (min m 8)).map nV)) → Ext [] H H' → H t = none → Q (.ref t) H'
theorem ok_law_win_ends (T : Tx K mg) : FnOk P w K mg base CX0 1 T.law_win_ends.f T.law_win_ends.fd ["book", "first", "many"] (sp_law_win_ends K) := by
  refine T.law_win_ends.F.ok sc_law_win_ends (fun vs H Q E h => ?_) (fun cdv A outer s H vs Q E hr h => ?_)
  · obtain ⟨v, b, s, m, rfl, _⟩ := h; rfl
  · obtain ⟨v, b, st, m, rfl, ⟨a, ls, rfl, ha, hls⟩, fb, hs, q⟩ := h
    have llen := Paired.len hls
    have h8 := fb.eight
    refine ⟨_, (pss_cons (ps_asg (pe_tup (pa_cons (pe_lst pa_nil) (pa_cons (pe_lst (pa_cons (pv 1) pa_nil)) pa_nil))) (pg_tup rfl (pgs_cons (pg_name (i := 3) sc_law_win_ends.nd rfl (.inr rfl)) (pgs_cons (pg_name (i := 4) sc_law_win_ends.nd rfl (.inl rfl)) pgs_nil))))
      (pss_cons (ps_for PassesOwn.never rfl (pi_range1 (by rfl) T.n_range (pa_cons (pe_callB (call_min2 rfl) (by rfl) T.n_min (by decide +kernel) (pa_cons (pv 2) (pa_cons pe_int pa_nil))) pa_nil)) (pg_name (i := 5) sc_law_win_ends.nd rfl (.inl rfl))
        (pss_cons (ps_set (i := 3) sc_law_win_ends.nd rfl (.inr rfl) (pe_op op_cat (pv 3) (pe_lc (own := [("state", 7)]) rfl sc_law_win_ends.nd (pi_list (pv 4)) (blkOk_by (own := [("state", 7)]) (N := ["book", "first", "many", "found", "level", "turn", "ahead", "state", "message", "to"]) (sc := defScope s_law_win_ends) (by decide +kernel)) (fun _ _ _ _ _ => (pg_name (i := 7) sc_law_win_ends.nd rfl (.inl rfl))) (fun _ _ _ _ _ => pts_one (pt_mid (pt_cmpR (op_notIn_seqK K) (pv 7) (pv 3) (by rfl)))) (fun _ _ _ _ _ => (pv 7)))))
        (pss_cons (ps_set (i := 6) sc_law_win_ends.nd rfl (.inl rfl) (pe_lst pa_nil))
        (pss_cons (ps_for PassesOwn.never rfl (pi_list (pv 4)) (pg_name (i := 7) sc_law_win_ends.nd rfl (.inl rfl))
          (pss_one (ps_set (i := 6) sc_law_win_ends.nd rfl (.inl rfl) (pe_op op_cat (pv 6) (pe_lc (own := [("message", 8), ("to", 9)]) rfl sc_law_win_ends.nd (pi_tup (pe_ix ix_tup (pv 0) (pv 7) (fun _ _ => rfl))) (blkOk_by (own := [("message", 8), ("to", 9)]) (N := ["book", "first", "many", "found", "level", "turn", "ahead", "state", "message", "to"]) (sc := defScope s_law_win_ends) (by decide +kernel)) (fun _ _ _ _ _ => (pg_tupK (n := 2) K rfl (pgs_cons (pg_name (i := 8) sc_law_win_ends.nd rfl (.inl rfl)) (pgs_cons (pg_name (i := 9) sc_law_win_ends.nd rfl (.inl rfl)) pgs_nil)))) (fun _ _ _ _ _ => pts_nil) (fun _ _ _ _ _ => (pv 9)))))))
        (pss_one (ps_set (i := 4) sc_law_win_ends.nd rfl (.inl rfl) (pe_callB (cr_sortedSet rfl) (by rfl) T.n_sorted (by decide +kernel) (pa_cons (pe_callTy (cr_setI rfl) (by rfl) T.n_set (by decide +kernel) (pa_cons (pv 6) pa_nil)) pa_nil))))))))
      (pss_one (ps_ret (pe_callB cr_sorted (by rfl) T.n_sorted (by decide +kernel) (pa_cons (pv 3) pa_nil)))))), ?_⟩
    -- found, level
    refine ⟨Nat.zero_le _, fun f hf => ?_⟩
    refine ⟨_, rfl, (by show 1 ≤ sizeLine; decide), fun lv hlv => ⟨(by show 2 ≤ sizeLine; decide), fun t ht => ?_⟩⟩
    have e0 : Ext [] H (upd (upd (upd H f (.lst [])) lv (.lst [.int st])) t (.tup [.ref f, .ref lv])) := ((Ext.new (L := []) hf).trans (.new hlv)).trans (.new ht)
    refine ⟨t, _, rfl, .of upd_same, rfl, _, _, rfl, _, _, rfl, rfl, ?_⟩
    have flv : f ≠ lv := fun z => by rw [z, upd_same] at hlv; cases hlv
    have hf0 : upd (upd (upd H f (.lst [])) lv (.lst [.int st])) t (.tup [.ref f, .ref lv]) f = some (.lst (([] : List Nat).map nV)) := by
      rw [upd_ne (fun z => by rw [← z, upd_ne flv, upd_same] at ht; cases ht), upd_ne flv, upd_same]
      rfl
    have hl0 : upd (upd (upd H f (.lst [])) lv (.lst [.int st])) t (.tup [.ref f, .ref lv]) lv = some (.lst ((exL b st 0).map nV)) := by
      rw [upd_ne (fun z => by rw [← z, upd_same] at ht; cases ht), upd_same]
      rfl
    generalize upd (upd (upd H f (.lst [])) lv (.lst [.int st])) t (.tup [.ref f, .ref lv]) = H0 at *
    have hmin : (if (8 : Int) < (m : Int) then (8 : Int) else (m : Int)) = ((min m 8 : Nat) : Int) := by
      by_cases h : (8 : Int) < (m : Int)
      · rw [if_pos h]; omega
      · rw [if_neg h]; omega
    refine ⟨_, rfl, _, _, rfl, _, rfl, ?_⟩
    rw [hmin]
    refine ⟨by omega, by omega, ?_⟩
    rw [Int.toNat_natCast]
    refine for_range (lo := 0) (n := _) (fun i σ H' => ∃ (f lv : Addr) (F : List Nat) (y5 y6 y7 : Option V), σ = [some (.ref a), some (.int st), some (.int m), some (.ref f), some (.ref lv), y5, y6, y7, none, none] ∧ H' f = some (.lst (F.map nV)) ∧ F.Nodup ∧ (∀ k, k ∈ F ↔ ∃ j, j < i ∧ k ∈ exL b st j) ∧
      H' lv = some (.lst ((exL b st i).map nV)) ∧ Ext [] H H') ⟨f, lv, [], _, _, _, rfl, hf0, .nil, fun k => by simp, hl0, e0⟩ ?_ ?_
    · rintro i σ H1 hi ⟨f, lv, F, y5, y6, y7, rfl, hF, Fnd, Fm, hL, e1⟩
      have Flt : ∀ k ∈ F, k < b.length := fun k hk => by
        obtain ⟨j, _, h⟩ := (Fm k).mp hk
        exact exL_lt hs j k h
      have Fl := nodup_le Fnd Flt
      have Ll := exL_len hs i
      have Llt := exL_lt hs i
      -- found = found + [..]
      refine ⟨_, rfl, _, rfl, lv, rfl, ⟨_, .of hL⟩, fun D hD => ?_⟩
      refine filt_list (K := K) (a := lv) (l := exL b st i) (fun k => !decide (k ∈ F)) hD (.of hL) (by omega) (fun v => rfl) (fun v => rfl) (fun k H' hk e2 => ?_) (fun H2 hD2 e2 => ?_)
      · refine ⟨_, rfl, _, rfl, f, _, rfl, .inl (.of (e2.at hF (by simp))), rfl, flat_nV _, _, rfl, ?_, .refl⟩
        show (!inV (nV k) (F.map nV)) = _
        rw [inV_nV]
      · have hF2 := e2.at hF (by simp)
        have hL2 := e2.at hL (by simp)
        have tl : ((exL b st i).filter fun k => !decide (k ∈ F)).length ≤ b.length := Nat.le_trans (List.length_filter_le _ _) Ll
        refine ⟨f, D, _, _, rfl, rfl, hF2, hD2, by rw [List.length_map, List.length_map]; exact Nat.le_of_lt (small1000 (by omega)), fun c hc => ?_⟩
        have e3 := (e1.trans e2).put2 (o := .lst (F.map nV ++ ((exL b st i).filter fun k => !decide (k ∈ F)).map nV)) hc
        have hL3 : upd H2 c (.lst (F.map nV ++ ((exL b st i).filter fun k => !decide (k ∈ F)).map nV)) lv = some (.lst ((exL b st i).map nV)) := by
          rw [upd_ne (ne_of_none hL2 hc)]
          exact hL2
        have hF3 : upd H2 c (.lst (F.map nV ++ ((exL b st i).filter fun k => !decide (k ∈ F)).map nV)) c = some (.lst ((F ++ (exL b st i).filter fun k => !decide (k ∈ F)).map nV)) := by
          rw [upd_same, List.map_append]
        have Fm2 : ∀ k, k ∈ F ++ ((exL b st i).filter fun k => !decide (k ∈ F)) ↔ ∃ j, j < i + 1 ∧ k ∈ exL b st j := fun k => by
          rw [List.mem_append, List.mem_filter]
          constructor
          · rintro (h | ⟨h, _⟩)
            · obtain ⟨j, hj, h⟩ := (Fm k).mp h
              exact ⟨j, by omega, h⟩
            · exact ⟨i, by omega, h⟩
          · rintro ⟨j, hj, h⟩
            by_cases hin : k ∈ F
            · exact .inl hin
            · refine .inr ⟨?_, by rw [decide_eq_false hin]; rfl⟩
              have : j = i := by
                by_cases hji : j < i
                · exact absurd ((Fm k).mpr ⟨j, hji, h⟩) hin
                · omega
              rw [← this]
              exact h
        have Fnd2 : (F ++ ((exL b st i).filter fun k => !decide (k ∈ F))).Nodup := by
          rw [List.nodup_append]
          refine ⟨Fnd, List.Nodup.sublist List.filter_sublist (srt_nodup (exL_srt b st i)), fun x hx y hy e => ?_⟩
          have := (List.mem_filter.mp hy).2
          rw [← e, decide_eq_true hx] at this
          cases this
        clear hD2 hF2 hL2 e2 hD tl Flt Fl
        generalize F ++ ((exL b st i).filter fun k => !decide (k ∈ F)) = F2 at *
        generalize upd H2 c (.lst (F.map nV ++ ((exL b st i).filter fun k => !decide (k ∈ F)).map nV)) = H3 at *
        -- ahead = []
        refine ⟨Nat.zero_le _, fun ao hao => ?_⟩
        have e4 := e3.put2 (o := .lst []) hao
        have hL4 : upd H3 ao (.lst []) lv = _ := (upd_ne (ne_of_none hL3 hao)).trans hL3
        have hF4 : upd H3 ao (.lst []) c = _ := (upd_ne (ne_of_none hF3 hao)).trans hF3
        refine ⟨_, rfl, lv, rfl, ⟨_, .of hL4⟩, for_list (K := K) (a := lv) (xs := (exL b st i).map nV) (fun j σ H' => ∃ (an : Addr) (ah : List Nat) (y7 : Option V), σ = [some (.ref a), some (.int st), some (.int m), some (.ref c), some (.ref lv), some (.int (0 + i)), some (.ref an), y7, none, none] ∧
          H' an = some (.lst (ah.map nV)) ∧ ah.length ≤ 5 * j ∧ (∀ k, k ∈ ah ↔ ∃ x ∈ (exL b st i).take j, ∃ p ∈ mvs b x, p.2 = k) ∧ Ext [] (upd H3 ao (.lst [])) H') ⟨ao, [], _, rfl, upd_same, Nat.zero_le _, fun k => by simp, .refl⟩ (fun j σ H' _ ⟨_, _, _, _, _, _, _, e⟩ => .of (e.at hL4 (by simp))) ?_ ?_⟩
        · rintro j v σ H' hv ⟨ao2, ah, y7, rfl, hA, al, am, e5⟩
          obtain ⟨x, hx, rfl⟩ := map_at hv
          have hxb : x < b.length := Llt x (List.mem_of_getElem? hx)
          obtain ⟨u, hu, g, ps, rfl, hg, hps⟩ := Paired.get hls (mvs_lt hxb)
          have plen := Paired.len hps
          have five := (fb.ok hxb).few
          have e6 := e4.trans e5
          have hjl : j < b.length := by
            have := (List.getElem?_eq_some_iff.mp hx).1
            omega
          refine ⟨_, rfl, _, rfl, _, rfl, a, _, _, _, rfl, rfl, e6.tup Lsts.nil ha, atI_nat hu, g, rfl, ⟨_, (e6.tz Lsts.nil hg).sq⟩, fun D hD => ?_⟩
          refine lc_tup (K := K) (a := g) (xs := ps.map V.ref) (fun k H2 => H2 D = some (.lst ((((mvs b x).take k).map (·.2)).map nV)) ∧ Ext [] H' H2) ⟨upd_same, .new hD⟩ (fun k H2 _ ⟨_, e⟩ => ((e6.trans e).tz Lsts.nil hg).sq) ?_ ?_
          · rintro k v H2 hv2 ⟨hD2, e7⟩
            obtain ⟨gg, hgg, rfl⟩ := map_at hv2
            obtain ⟨p, hp, hcp⟩ := Paired.get' hps hgg
            have hk5 : k < 5 := by
              have := (List.getElem?_eq_some_iff.mp hp).1
              omega
            refine ⟨gg, _, rfl, hcp.ext0 (e6.trans e7), rfl, _, _, rfl, _, _, rfl, rfl, rfl, yes ?_⟩
            refine ⟨_, rfl, _, hD2, by rw [List.length_map, List.length_map, List.length_take]; exact small1000 (by omega), ?_, e7.put hD⟩
            rw [upd_same, List.take_add_one, hp, List.map_append, List.map_append]
            rfl
          · rintro H2 ⟨hD2, e7⟩
            rw [List.length_map, plen, List.take_length] at hD2
            refine ⟨ao2, D, _, _, rfl, rfl, e7.at hA (by simp), hD2, by rw [List.length_map, List.length_map, List.length_map]; exact Nat.le_of_lt (small1000 (by omega)), fun c2 hc2 => ?_⟩
            refine ⟨c2, ah ++ (mvs b x).map (·.2), _, rfl, by rw [upd_same, List.map_append], by rw [List.length_append, List.length_map]; omega, fun k => ?_, (e5.trans e7).put2 hc2⟩
            rw [List.mem_append, am, List.take_add_one, hx, List.mem_map]
            constructor
            · rintro (⟨y, hy, r⟩ | ⟨p, hp, e⟩)
              · exact ⟨y, List.mem_append_left _ hy, r⟩
              · exact ⟨x, List.mem_append_right _ (by simp), p, hp, e⟩
            · rintro ⟨y, hy, p, hp, e⟩
              rcases List.mem_append.mp hy with hy | hy
              · exact .inl ⟨y, hy, p, hp, e⟩
              · have : y = x := by simpa using hy
                subst this
                exact .inr ⟨p, hp, e⟩
        · rintro σ H' ⟨ao2, ah, y7, rfl, hA, al, am, e5⟩
          rw [List.length_map] at al am
          rw [List.take_length] at am
          refine ⟨_, rfl, ao2, ah.map (fun n : Nat => (n : Int)), rfl, .of (by rw [hA, map_nV_int]), by rw [List.length_map]; omega, fun p z hp hz => ?_⟩
          have e6 := (e4.trans e5).put2 (o := SetO w p (fun j => decide (j ∈ ah.map (fun n : Nat => (n : Int)))) z) hp
          refine ⟨p, _, z, rfl, upd_same, ?_, fun ns t hns hmem hlen ht => ?_⟩
          · rw [List.length_map] at hz
            omega
          have nn : ∃ ms : List Nat, ns = ms.map (fun n : Nat => (n : Int)) := by
            refine ⟨ns.map Int.toNat, ?_⟩
            rw [List.map_map]
            conv => lhs; rw [← List.map_id ns]
            refine List.map_congr_left fun x hx => ?_
            have := of_decide_eq_true ((hmem x).mp hx)
            obtain ⟨n, _, rfl⟩ := List.mem_map.mp this
            rfl
          obtain ⟨ms, rfl⟩ := nn
          have ems : ms = exL b st (i + 1) := by
            refine srt_eq ?_ (exL_srt _ _ _) fun k => ?_
            · rw [List.pairwise_map] at hns
              exact List.Pairwise.imp (fun h => by omega) hns
            · have h1 := hmem (k : Int)
              rw [decide_eq_true_eq, List.mem_map, List.mem_map] at h1
              show _ ↔ k ∈ nextL b (exL b st i)
              rw [mem_next fb, ← am k]
              constructor
              · intro hk
                obtain ⟨y, hy, e⟩ := h1.mp ⟨k, hk, rfl⟩
                have : y = k := by omega
                subst this
                exact hy
              · intro hk
                obtain ⟨y, hy, e⟩ := h1.mpr ⟨k, hk, rfl⟩
                have : y = k := by omega
                subst this
                exact hy
          subst ems
          refine ⟨c, t, F2, _, _, _, rfl, (((e5.put2 hp).put2 ht).at hF4 (by simp)), Fnd2, Fm2, by rw [upd_same, ← map_nV_int], e6.put2 ht⟩
    · rintro σ H' ⟨f, lv, F, y5, y6, y7, rfl, hF, Fnd, Fm, hL, e⟩
      have Flt : ∀ k ∈ F, k < b.length := fun k hk => by
        obtain ⟨j, _, h⟩ := (Fm k).mp hk
        exact exL_lt hs j k h
      have Fl := nodup_le Fnd Flt
      refine ⟨_, rfl, f, F.map (fun n : Nat => (n : Int)), rfl, .of (by rw [← map_nV_int]; exact hF), by rw [List.length_map]; omega, fun ns t perm rise ht => ?_⟩
      obtain ⟨ms, e1', e2', e3'⟩ := sorted_nats Fnd perm rise
      rw [e1']
      have : ms = endsL b st (min m 8) := srt_eq e3' (endsL_srt _ _ _) fun k => by rw [e2'.mem_iff, Fm, mem_ends fb hs]
      subst this
      exact q t _ upd_same (e.put2 ht) (e.free ht)
/-! ### the law's own ways back -/
theorem sc_law_win_back : FnScope ["book", "found", "state", "moves", "message", "to"] ["book"] (defScope s_law_win_back) := ⟨rfl, rfl, rfl, by decide +kernel, rfl, by decide +kernel, by decide +kernel⟩
/-- a list whose items are lists of so many things -/
def LnV (H : Hp) (v : V) (n : Nat) : Prop := ∃ (a : Addr) (xs : List V), v = .ref a ∧ H a = some (.lst xs) ∧ xs.length = n
theorem LnV.ext0 {H H' : Hp} {v : V} {n : Nat} (h : LnV H v n) (e : Ext [] H H') : LnV H' v n := by
  obtain ⟨a, xs, rfl, h1, h2⟩ := h
  exact ⟨a, xs, rfl, e.at h1 (by simp), h2⟩
def sp_law_win_back (K : PySem.W.Frag) : Sp := fun vs H Q _ => ∃ (v : V) (b : Book), vs = [v] ∧ BkV K H v b ∧ FormB b ∧ ∀ (t : Addr) (xs : List V) (H' : Hp), H' t = some (.lst xs) → Paired (LnV H') xs ((List.range b.length).map (backM b)) → Ext [] H H' → Q (.ref t) H'
theorem ok_law_win_back (T : Tx K mg) : FnOk P w K mg base CX0 2 T.law_win_back.f T.law_win_back.fd ["book"] (sp_law_win_back K) := by
  refine T.law_win_back.F.ok sc_law_win_back (fun vs H Q E h => ?_) (fun cdv A outer s H vs Q E hr h => ?_)
  · obtain ⟨v, b, rfl, _⟩ := h; rfl
  · obtain ⟨v, b, rfl, hb, fb, q⟩ := h
    obtain ⟨a, ls, rfl, ha, hls⟩ := id hb
    have llen := Paired.len hls
    have h8 := fb.eight
    refine ⟨_, (pss_cons (ps_set (i := 1) sc_law_win_back.nd rfl (.inl rfl) (pe_lst pa_nil))
      (pss_cons (ps_for PassesOwn.never rfl (pi_enumT (by rfl) T.n_enumerate (pa_cons (pv 0) pa_nil)) (pg_tup rfl (pgs_cons (pg_name (i := 2) sc_law_win_back.nd rfl (.inr rfl)) (pgs_cons (pg_name (i := 3) sc_law_win_back.nd rfl (.inl rfl)) pgs_nil)))
        (pss_one (ps_expr (pe_bm PySem.F.plainAttrs_list PySem.F.slot_list_append PySem.F.type_list_append mt_append (pv 1) (pa_cons (pe_lc (own := [("message", 4), ("to", 5)]) rfl sc_law_win_back.nd (pi_tup (pv 3)) (blkOk_by (own := [("message", 4), ("to", 5)]) (N := ["book", "found", "state", "moves", "message", "to"]) (sc := defScope s_law_win_back) (by decide +kernel)) (fun _ _ _ _ _ => (pg_tupK (n := 2) K rfl (pgs_cons (pg_name (i := 4) sc_law_win_back.nd rfl (.inl rfl)) (pgs_cons (pg_name (i := 5) sc_law_win_back.nd rfl (.inl rfl)) pgs_nil)))) (fun _ _ _ _ _ => pts_one (pt_mid (pt_cmpR (op_in_seqK K) (pv 2) (pe_call (ok_law_win_ends T) (hr.mono (by decide)) (by rfl) T.law_win_ends.g T.law_win_ends.F.kp T.law_win_ends.b .nil pass0 (pa_cons (pv 0) (pa_cons (pv 5) (pa_cons pe_int pa_nil)))) (by rfl)))) (fun _ _ _ _ _ => (pv 4))) pa_nil)))))
      (pss_one (ps_ret (pv 1))))), ?_⟩
    refine ⟨Nat.zero_le _, fun f hf => ?_⟩
    have e0 : Ext [] H (upd H f (.lst [])) := .new hf
    refine ⟨_, rfl, a, _, rfl, e0.tup Lsts.nil ha, ?_⟩
    refine for_it (walk_enumT (K := K) (a := a) (xs := ls)) (fun i σ H' => ∃ (xs : List V) (y2 y3 : Option V), σ = [some (.ref a), some (.ref f), y2, y3, none, none] ∧ H' f = some (.lst xs) ∧ Paired (fun v n => LnV H' v n ∧ v ≠ .ref f) xs (((List.range b.length).take i).map (backM b)) ∧ Ext [] H H') ⟨[], _, _, rfl, upd_same, by simp; exact .nil, e0⟩ (fun i σ H' _ ⟨_, _, _, _, _, _, e⟩ => e.tup Lsts.nil ha) ?_ ?_
    · rintro i v σ H1 H' hi ⟨xs, y2, y3, rfl, hF, hp, e1⟩ ⟨T', x, y, rfl, hT, rfl, hx, hy⟩
      cases hx
      have hib : i < b.length := by omega
      have e2 := e1.put2 (o := .tup [.int i, y]) hT
      have hF2 : upd H1 T' (.tup [.int i, y]) f = some (.lst xs) := by rw [upd_ne (ne_of_none hF hT)]; exact hF
      obtain ⟨u, hu, c, ps, rfl, hc, hps⟩ := Paired.get hls (mvs_lt hib)
      have hy : ls[i]? = some y := hy
      rw [hu] at hy
      have hy := Option.some.inj hy
      subst hy
      have plen := Paired.len hps
      have five := (fb.ok hib).few
      have e12 : Ext [] H1 (upd H1 T' (.tup [.int i, .ref c])) := .new hT
      refine ⟨T', _, rfl, .of upd_same, rfl, _, _, rfl, _, _, rfl, rfl, ?_⟩
      generalize upd H1 T' (.tup [.int i, .ref c]) = H2 at *
      refine ⟨_, rfl, .inl ⟨rfl, _, .of hF2⟩, ?_⟩
      refine ⟨_, rfl, c, rfl, ⟨_, (e2.tz Lsts.nil hc).sq⟩, fun D hD => ?_⟩
      refine lc_tup (K := K) (a := c) (xs := ps.map V.ref) (fun j H' => ∃ xs : List V, H' D = some (.lst xs) ∧ xs.length = (((mvs b i).take j).filter fun p => decide (i ∈ endsL b p.2 8)).length ∧ Ext [] H2 H') ⟨[], upd_same, rfl, .new hD⟩ (fun j H' _ ⟨_, _, _, e⟩ => ((e2.trans e).tz Lsts.nil hc).sq) ?_ ?_
      · rintro j v H' hv ⟨ys, hY, hyl, e3⟩
        obtain ⟨g, hg, rfl⟩ := map_at hv
        obtain ⟨p, hp, hcp⟩ := Paired.get' hps hg
        have hm := List.mem_of_getElem? hp
        have e4 := e2.trans e3
        refine ⟨g, _, rfl, hcp.ext0 e4, rfl, _, _, rfl, _, _, rfl, rfl, rfl, ?_⟩
        refine ⟨fun x H3 => x = decide (i ∈ endsL b p.2 8) ∧ Ext [] H' H3, ?_, ?_⟩
        · refine ⟨_, rfl, _, rfl, _, rfl, .ref a, b, p.2, 8, rfl, hb.ext0 e4, fb, fb.to hm, fun t H3 ht e5 _ => ?_⟩
          exact ⟨t, _, rfl, .inl (.of ht), rfl, flat_nV _, _, rfl, inV_nV i _, e5⟩
        · rintro x H3 ⟨rfl, e5⟩
          have h3 := e5.at hY (by simp)
          refine ifB (fun hf => ?_) (fun hf => ?_)
          · refine ⟨_, rfl, _, h3, ?_, ys ++ [.int p.1], upd_same, ?_, (e3.trans e5).put hD⟩
            · rw [hyl]
              refine small1000 (Nat.le_trans (List.length_filter_le _ _) ?_)
              rw [List.length_take]
              omega
            · rw [List.length_append, hyl, filter_take _ hp, hf]
              simp
          · refine ⟨ys, h3, ?_, e3.trans e5⟩
            rw [hyl, filter_take _ hp, hf]
            simp
      · rintro H' ⟨ys, hY, hyl, e3⟩
        rw [List.length_map, plen, List.take_length] at hyl
        have hF3 := e3.at hF2 (by simp)
        have hp3 : Paired (fun v n => LnV H' v n ∧ v ≠ .ref f) xs (((List.range b.length).take i).map (backM b)) := Paired.imp hp fun _ _ z => ⟨z.1.ext0 (e12.trans e3), z.2⟩
        have e13 := e12.trans e3
        refine ⟨f, _, _, rfl, rfl, hF3, ?_, xs ++ [.ref D], _, _, rfl, upd_same, ?_, (e2.trans e3).put hf⟩
        · rw [Paired.len hp, List.length_map, List.length_take, List.length_range]
          exact small1000 (by omega)
        · have fD : f ≠ D := ne_of_none hF2 hD
          rw [List.take_add_one, List.getElem?_range hib, List.map_append]
          refine Paired.snoc ⟨⟨D, ys, rfl, by rw [upd_ne fD.symm]; exact hY, hyl⟩, fun z => fD (V.ref.inj z).symm⟩ (Paired.imp hp3 fun v n z => ⟨?_, z.2⟩)
          obtain ⟨⟨g, zs, rfl, h1, h2⟩, h3⟩ := z
          exact ⟨g, zs, rfl, by rw [upd_ne (fun y => h3 (by rw [y]))]; exact h1, h2⟩
    · rintro σ H' ⟨xs, y2, y3, rfl, hF, hp, e⟩
      refine ⟨_, rfl, q f xs H' hF ?_ e⟩
      rw [llen, List.take_of_length_le (by rw [List.length_range]; exact Nat.le_refl _)] at hp
      exact Paired.imp hp fun _ _ z => z.1
theorem sc_law_win_knots : FnScope ["book", "state", "back"] ["book"] (defScope s_law_win_knots) := ⟨rfl, rfl, rfl, by decide +kernel, rfl, by decide +kernel, by decide +kernel⟩
def sp_law_win_knots (K : PySem.W.Frag) : Sp := fun vs H Q _ => ∃ (v : V) (b : Book), vs = [v] ∧ BkV K H v b ∧ FormB b ∧ ∀ (t : Addr) (H' : Hp), H' t = some (.lst ((knotsM b).map nV)) → Ext [] H H' → Q (.ref t) H'
theorem ok_law_win_knots (T : Tx K mg) : FnOk P w K mg base CX0 3 T.law_win_knots.f T.law_win_knots.fd ["book"] (sp_law_win_knots K) := by
  refine T.law_win_knots.F.ok sc_law_win_knots (fun vs H Q E h => ?_) (fun cdv A outer s H vs Q E hr h => ?_)
  · obtain ⟨v, b, rfl, _⟩ := h; rfl
  · obtain ⟨v, b, rfl, hb, fb, q⟩ := h
    have h8 := fb.eight
    refine ⟨_, (pss_one (ps_ret (pe_lc (own := [("state", 1), ("back", 2)]) rfl sc_law_win_knots.nd (pi_enum (by rfl) T.n_enumerate (pa_cons (pe_call (ok_law_win_back T) (hr.mono (by decide)) (by rfl) T.law_win_back.g T.law_win_back.F.kp T.law_win_back.b .nil pass0 (pa_cons (pv 0) pa_nil)) pa_nil)) (blkOk_by (own := [("state", 1), ("back", 2)]) (N := ["book", "state", "back"]) (sc := defScope s_law_win_knots) (by decide +kernel)) (fun _ _ _ _ _ => (pg_tupK (n := 2) K rfl (pgs_cons (pg_name (i := 1) sc_law_win_knots.nd rfl (.inl rfl)) (pgs_cons (pg_name (i := 2) sc_law_win_knots.nd rfl (.inl rfl)) pgs_nil)))) (fun _ _ _ _ _ => pts_one (pt_mid (pt_cmpR op_gt (pe_callB (call_len_seqK K) (by rfl) T.n_len PySem.boot_len (pa_cons (pv 2) pa_nil)) pe_int (nomark _)))) (fun _ _ _ _ _ => (pv 1))))), ?_⟩
    refine ⟨_, rfl, v, b, rfl, hb, fb, fun wb xs H1 hW hp e1 => ?_⟩
    have xl : xs.length = b.length := by rw [Paired.len hp, List.length_map, List.length_range]
    refine ⟨wb, xs, rfl, .inl (.of hW), fun D hD => ?_⟩
    refine lc_it (walk_enum (K := K) (a := wb) (xs := xs)) (fun i H' => H' D = some (.lst ((((List.range b.length).take i).filter fun s => decide (1 < backM b s)).map nV)) ∧ Ext [] H1 H') ⟨upd_same, .new hD⟩ (fun i H' _ ⟨_, e⟩ => .inl (.of (e.at hW (by simp)))) ?_ ?_
    · rintro i v H2 H' hi ⟨hD2, e2⟩ ⟨T', x, y, rfl, hT, rfl, hx, hy⟩
      cases hx
      have hib : i < b.length := by omega
      have hy : xs[i]? = some y := hy
      have hri : (List.range b.length)[i]? = some i := List.getElem?_range hib
      obtain ⟨n, hn, g, zs, rfl, hg, hz⟩ := Paired.get' hp hy
      have en : n = backM b i := by
        rw [List.getElem?_map, hri] at hn
        exact (Option.some.inj hn).symm
      have e3 := e2.put2 (o := .tup [.int i, .ref g]) hT
      have hD3 : upd H2 T' (.tup [.int i, .ref g]) D = _ := (upd_ne (ne_of_none hD2 hT)).trans hD2
      refine ⟨T', _, rfl, .of upd_same, rfl, _, _, rfl, _, _, rfl, rfl, rfl, ?_⟩
      refine ⟨fun x H3 => x = decide (1 < backM b i) ∧ H3 = upd H2 T' (.tup [.int i, .ref g]), ?_, ?_⟩
      · refine ⟨_, rfl, g, _, rfl, .inl (.of (e3.at hg (by simp))), _, _, rfl, rfl, _, rfl, ?_, rfl⟩
        rw [hz, en]
        refine decide_eq_decide.mpr ?_
        omega
      · rintro x H3 ⟨rfl, rfl⟩
        refine ifB (fun hf => ?_) (fun hf => ?_)
        · refine ⟨_, rfl, _, hD3, ?_, ?_, e3.put hD⟩
          · rw [List.length_map]
            refine small1000 (Nat.le_trans (List.length_filter_le _ _) ?_)
            rw [List.length_take]
            omega
          · rw [upd_same, filter_take _ hri, hf]
            simp
        · refine ⟨?_, e3⟩
          rw [hD3, filter_take _ hri, hf]
          simp
    · rintro H' ⟨hD2, e2⟩
      rw [xl, List.take_of_length_le (by rw [List.length_range]; exact Nat.le_refl _), knots_law fb] at hD2
      exact q D H' hD2 (e1.trans e2)
/-! ### the least numbers of ways back -/
def firstM (b : Book) (s t : Nat) : List Nat := ((List.range' 1 b.length).filter fun m => decide (s ∈ endsL b t m)).take 1
def backsM (b : Book) (s : Nat) (st : State) : List Nat := st.flatMap fun p => firstM b s p.2
theorem backs_len (b : Book) (s : Nat) : ∀ st : State, (backsM b s st).length ≤ st.length
  | [] => Nat.le_refl _
  | p :: r => by
    have := backs_len b s r
    have f1 : (firstM b s p.2).length ≤ 1 := by unfold firstM; rw [List.length_take]; omega
    show ((firstM b s p.2) ++ backsM b s r).length ≤ r.length + 1
    rw [List.length_append]
    omega
theorem cut1 (xs : List V) : cutV xs none (some 1) = xs.take 1 := by
  unfold cutV
  cases xs with
  | nil => simp
  | cons x r => simp [HT.sIx]
theorem sorted_natsD {F : List Nat} {ns : List Int} (p : ns.Perm (F.map fun n : Nat => (n : Int))) (r : ns.Pairwise (· ≤ ·)) : ∃ ms : List Nat, ns.map V.int = ms.map nV ∧ ms.Perm F ∧ ms.Pairwise (· ≤ ·) := by
  have nn : ∀ z ∈ ns, ∃ n : Nat, z = (n : Int) := fun z hz => by
    obtain ⟨n, _, rfl⟩ := List.mem_map.mp (p.mem_iff.mp hz)
    exact ⟨n, rfl⟩
  refine ⟨ns.map Int.toNat, ?_, ?_, ?_⟩
  · rw [List.map_map]
    refine List.map_congr_left fun z hz => ?_
    obtain ⟨n, rfl⟩ := nn z hz
    rfl
  · have q := p.map Int.toNat
    rw [List.map_map] at q
    have e : F.map (Int.toNat ∘ fun n : Nat => (n : Int)) = F := by
      conv => rhs; rw [← List.map_id F]
      exact List.map_congr_left fun z _ => rfl
    rw [e] at q
    exact q
  · rw [List.pairwise_map]
    refine List.Pairwise.imp_of_mem (fun {a b} ha hb h => ?_) r
    obtain ⟨n, rfl⟩ := nn a ha
    obtain ⟨m, rfl⟩ := nn b hb
    simp
    omega
theorem sc_law_ways_back : FnScope ["book", "state", "found", "message", "to", "some", "many"] ["book", "state"] (defScope s_law_ways_back) := ⟨rfl, rfl, rfl, by decide +kernel, rfl, by decide +kernel, by decide +kernel⟩
def sp_law_ways_back (K : PySem.W.Frag) : Sp := fun vs H Q _ => ∃ (v : V) (b : Book) (s : Nat), vs = [v, .int s] ∧ BkV K H v b ∧ FormB b ∧ s < b.length ∧ ∀ (ms : List Nat) (t : Addr) (H' : Hp), ms.Perm (backsM b s (mvs b s)) → ms.Pairwise (· ≤ ·) → H' t = some (.lst (ms.map nV)) → Ext [] H H' → Q (.ref t) H'
theorem ok_law_ways_back (T : Tx K mg) : FnOk P w K mg base CX0 2 T.law_ways_back.f T.law_ways_back.fd ["book", "state"] (sp_law_ways_back K) := by
  refine T.law_ways_back.F.ok sc_law_ways_back (fun vs H Q E h => ?_) (fun cdv A outer s H vs Q E hr h => ?_)
  · obtain ⟨v, b, s, rfl, _⟩ := h; rfl
  · obtain ⟨v, b, st, rfl, hb, fb, hs, q⟩ := h
    obtain ⟨a, ls, rfl, ha, hls⟩ := id hb
    have llen := Paired.len hls
    have h8 := fb.eight
    obtain ⟨u, hu, c, ps, rfl, hc, hps⟩ := Paired.get hls (mvs_lt hs)
    have plen := Paired.len hps
    have five := (fb.ok hs).few
    refine ⟨_, (pss_cons (ps_set (i := 2) sc_law_ways_back.nd rfl (.inl rfl) (pe_lst pa_nil))
      (pss_cons (ps_for PassesOwn.never rfl (pi_tup (pe_ix ix_tup (pv 0) (pv 1) (fun _ _ => rfl))) (pg_tup rfl (pgs_cons (pg_name (i := 3) sc_law_ways_back.nd rfl (.inl rfl)) (pgs_cons (pg_name (i := 4) sc_law_ways_back.nd rfl (.inr rfl)) pgs_nil)))
        (pss_cons (ps_setLc (i := 5) (own := [("many", 6)]) rfl sc_law_ways_back.nd rfl rfl (sw_true rfl rfl rfl (by decide +kernel)) (pi_range2 (by rfl) T.n_range (pa_cons pe_int (pa_cons (pe_op op_add (pe_callB call_len_seq (by rfl) T.n_len PySem.boot_len (pa_cons (pv 0) pa_nil)) pe_int) pa_nil))) (blkOk_by (own := [("many", 6)]) (N := ["book", "state", "found", "message", "to", "some", "many"]) (sc := defScope s_law_ways_back) (by decide +kernel)) (fun _ _ _ _ _ => (pg_name (i := 6) sc_law_ways_back.nd rfl (.inl rfl))) (fun _ _ _ _ _ => pts_one (pt_mid (pt_cmpR (op_in_seqK K) (pv 1) (pe_call (ok_law_win_ends T) (hr.mono (by decide)) (by rfl) T.law_win_ends.g T.law_win_ends.F.kp T.law_win_ends.b .nil pass0 (pa_cons (pv 0) (pa_cons (pv 4) (pa_cons (pv 6) pa_nil)))) (by rfl)))) (fun _ _ _ _ _ => (pv 6)))
        (pss_one (ps_set (i := 2) sc_law_ways_back.nd rfl (.inl rfl) (pe_op op_cat (pv 2) (pe_slice sl_list (pv 5) po_none (po_some pe_int)))))))
      (pss_one (ps_ret (pe_callB cr_sorted (by rfl) T.n_sorted (by decide +kernel) (pa_cons (pv 2) pa_nil)))))), ?_⟩
    refine ⟨Nat.zero_le _, fun f hf => ?_⟩
    have e0 : Ext [] H (upd H f (.lst [])) := .new hf
    refine ⟨_, rfl, _, rfl, a, _, _, _, rfl, rfl, e0.tup Lsts.nil ha, atI_nat hu, c, rfl, ⟨_, (e0.tz Lsts.nil hc).sq⟩, ?_⟩
    refine for_tup (K := K) (a := c) (xs := ps.map V.ref) (fun i σ H' => ∃ (f : Addr) (y3 y4 y5 : Option V), σ = [some (.ref a), some (.int st), some (.ref f), y3, y4, y5, none] ∧ H' f = some (.lst ((backsM b st ((mvs b st).take i)).map nV)) ∧ Ext [] H H') ⟨f, _, _, _, rfl, upd_same, e0⟩ (fun i σ H' _ ⟨_, _, _, _, _, _, e⟩ => (e.tz Lsts.nil hc).sq) ?_ ?_
    · rintro i v σ H' hv ⟨f, y3, y4, y5, rfl, hF, e⟩
      obtain ⟨g, hg, rfl⟩ := map_at hv
      obtain ⟨p, hp, hcp⟩ := Paired.get' hps hg
      have hm := List.mem_of_getElem? hp
      refine ⟨g, _, rfl, hcp.ext0 e, rfl, _, _, rfl, _, _, rfl, rfl, ?_⟩
      -- some = [..]
      refine ⟨_, rfl, a, _, rfl, .inr (e.tup Lsts.nil ha), _, _, rfl, rfl, 1, _, rfl, ⟨by omega, by omega, by omega, by omega⟩, fun D hD => ?_⟩
      have hn : ((ls.length : Int) + 1 - 1).toNat = b.length := by omega
      rw [hn]
      refine lc_range (lo := 1) (n := b.length) (fun j H2 => H2 D = some (.lst ((((List.range' 1 b.length).take j).filter fun m => decide (st ∈ endsL b p.2 m)).map nV)) ∧ Ext [] H' H2) ⟨upd_same, .new hD⟩ ?_ ?_
      · rintro j H2 hj ⟨hD2, e2⟩
        have hr' : (List.range' 1 b.length)[j]? = some (j + 1) := by
          rw [List.getElem?_range' hj]
          congr 1
          omega
        have ej : (1 : Int) + (j : Int) = ((j + 1 : Nat) : Int) := by omega
        rw [ej]
        have e4 := e.trans e2
        refine ⟨rfl, ?_⟩
        refine ⟨fun x H3 => x = decide (st ∈ endsL b p.2 (j + 1)) ∧ Ext [] H2 H3, ?_, ?_⟩
        · refine ⟨_, rfl, _, rfl, _, rfl, _, rfl, .ref a, b, p.2, j + 1, rfl, hb.ext0 e4, fb, fb.to hm, fun t H3 ht e5 _ => ?_⟩
          have : min (j + 1) 8 = j + 1 := by omega
          rw [this] at ht
          exact ⟨t, _, rfl, .inl (.of ht), rfl, flat_nV _, _, rfl, inV_nV st _, e5⟩
        · rintro x H3 ⟨rfl, e5⟩
          have h3 := e5.at hD2 (by simp)
          refine ifB (fun hf => ?_) (fun hf => ?_)
          · refine ⟨_, rfl, _, h3, ?_, ?_, (e2.trans e5).put hD⟩
            · rw [List.length_map]
              refine small1000 (Nat.le_trans (List.length_filter_le _ _) ?_)
              rw [List.length_take]
              omega
            · rw [upd_same, filter_take _ hr', hf]
              simp
          · refine ⟨?_, e2.trans e5⟩
            rw [h3, filter_take _ hr', hf]
            simp
      · rintro H2 ⟨hD2, e2⟩
        have tk : (List.range' 1 b.length).take b.length = List.range' 1 b.length := List.take_of_length_le (by simp)
        rw [tk] at hD2
        have fl : ((List.range' 1 b.length).filter fun m => decide (st ∈ endsL b p.2 m)).length ≤ b.length := Nat.le_trans (List.length_filter_le _ _) (by simp)
        -- found + some[:1]
        refine ⟨_, rfl, _, rfl, _, rfl, D, _, rfl, .of hD2, fun x hx => ?_⟩
        have hF2 := (e2.put2 (o := .lst (cutV (((List.range' 1 b.length).filter fun m => decide (st ∈ endsL b p.2 m)).map nV) none (some 1))) hx).at hF (by simp)
        have hx2 : upd H2 x (.lst (cutV (((List.range' 1 b.length).filter fun m => decide (st ∈ endsL b p.2 m)).map nV) none (some 1))) x = some (.lst ((firstM b st p.2).map nV)) := by
          rw [upd_same, cut1, ← List.map_take]
          rfl
        have e3 := (e.trans e2).put2 (o := .lst (cutV (((List.range' 1 b.length).filter fun m => decide (st ∈ endsL b p.2 m)).map nV) none (some 1))) hx
        have bl := backs_len b st ((mvs b st).take i)
        rw [List.length_take] at bl
        have f1 : (firstM b st p.2).length ≤ 1 := by unfold firstM; rw [List.length_take]; omega
        refine ⟨f, x, _, _, rfl, rfl, hF2, hx2, by rw [List.length_map, List.length_map]; exact Nat.le_of_lt (small1000 (by omega)), fun c2 hc2 => ?_⟩
        refine ⟨c2, _, _, _, rfl, ?_, e3.put2 hc2⟩
        rw [upd_same, ← List.map_append, List.take_add_one, hp]
        unfold backsM
        rw [List.flatMap_append]
        simp
    · rintro σ H' ⟨f, y3, y4, y5, rfl, hF, e⟩
      rw [List.length_map, plen, List.take_length] at hF
      have bl := backs_len b st (mvs b st)
      refine ⟨_, rfl, f, (backsM b st (mvs b st)).map (fun n : Nat => (n : Int)), rfl, .of (by rw [hF, map_nV_int]), by rw [List.length_map]; omega, fun ns t perm rise ht => ?_⟩
      obtain ⟨ms, e1', e2', e3'⟩ := sorted_natsD perm rise
      rw [e1']
      exact q ms t _ e2' e3' upd_same (e.put2 ht)
end
end Nv
set_option linter.all false
namespace Nv
/-! ### what lasts -/
theorem setAll_get : ∀ (L : List Nat) (r : List (Option Int)) (x : Int) (k : Nat), (setAll r L x)[k]? = if k ∈ L ∧ k < r.length then some (some x) else r[k]?
  | [], r, x, k => by simp [setAll]
  | f :: L, r, x, k => by
    show (setAll (r.set f (some x)) L x)[k]? = _
    rw [setAll_get L, List.length_set]
    by_cases h1 : k < r.length
    · by_cases h2 : k ∈ L
      · simp [h1, h2]
      · by_cases h3 : k = f
        · subst h3
          simp [h1, h2]
        · have : ¬ f = k := fun z => h3 z.symm
          simp [h1, h2, h3, this]
    · have : r[k]? = none := List.getElem?_eq_none (by omega)
      simp [h1, this]
theorem rk_sub {b : Book} {W t : Nat} {st fin : List Nat} {r res : List (Option Int)} (h : Rk b W t st r res fin) : ∀ k ∈ fin, k ∈ st := by
  induction h with
  | stop _ => exact fun k hk => hk
  | go _ _ ih => exact fun k hk => (List.mem_filter.mp (ih k hk)).1
theorem rk_stable {b : Book} {W t : Nat} {st fin : List Nat} {r res : List (Option Int)} (h : Rk b W t st r res fin) : ∀ s ∈ fin, 2 ≤ (leadM b W s fin).length := by
  induction h with
  | @stop t st r e =>
    intro s hs
    by_cases h : 2 ≤ (leadM b W s st).length
    · exact h
    · exfalso
      have : s ∈ fallM b W st := List.mem_filter.mpr ⟨hs, decide_eq_true (Nat.lt_of_not_le h)⟩
      rw [e] at this
      cases this
  | go _ _ ih => exact ih
theorem rk_stay {b : Book} {W t : Nat} {st fin : List Nat} {r res : List (Option Int)} (h : Rk b W t st r res fin) {s : Nat} (hs : s ∈ st) (two : ∀ goals : List Nat, s ∈ goals → 2 ≤ (leadM b W s goals).length) : s ∈ fin := by
  induction h with
  | stop _ => exact hs
  | @go t st fin r res _ _ ih =>
    refine ih (List.mem_filter.mpr ⟨hs, ?_⟩)
    have : s ∉ fallM b W st := fun z => by
      have := of_decide_eq_true (List.mem_filter.mp z).2
      have := two st hs
      omega
    rw [decide_eq_false this]
    rfl
theorem rk_fin {b : Book} {W t : Nat} {st fin : List Nat} {r res : List (Option Int)} (h : Rk b W t st r res fin) : (∀ k ∈ st, k < r.length) → (∀ k, k ∉ st → r[k]? ≠ some (some (-1))) → ∀ k, res[k]? = some (some (-1)) ↔ k ∈ fin := by
  induction h with
  | @stop t st r _ =>
    intro h1 h2 k
    rw [setAll_get]
    by_cases hk : k ∈ st
    · rw [if_pos ⟨hk, h1 k hk⟩]
      exact ⟨fun _ => hk, fun _ => rfl⟩
    · rw [if_neg (fun z => hk z.1)]
      exact ⟨fun z => absurd z (h2 k hk), fun z => absurd z hk⟩
  | @go t st fin r res _ _ ih =>
    intro h1 h2
    refine ih (fun k hk => by rw [setAll_len]; exact h1 k (List.mem_filter.mp hk).1) fun k hk => ?_
    rw [setAll_get]
    by_cases hf : k ∈ fallM b W st
    · have := h1 k (List.mem_filter.mp hf).1
      rw [if_pos ⟨hf, this⟩]
      intro z
      have := Option.some.inj (Option.some.inj z)
      omega
    · rw [if_neg (fun z => hf z.1)]
      refine h2 k fun z => hk (List.mem_filter.mpr ⟨z, ?_⟩)
      rw [decide_eq_false hf]
      rfl
theorem forks_lt {b : Book} {k : Nat} (h : k ∈ forksM b) : k < b.length := (mem_filt.mp h).1
theorem last_iff {b : Book} {W : Nat} {res : List (Option Int)} {fin : List Nat} (h : LastM b W res fin) (k : Nat) : k ∈ lastL b res ↔ k ∈ fin := by
  have key := rk_fin h (fun k hk => by rw [List.length_replicate]; exact forks_lt hk) (fun k _ z => by
    by_cases hk : k < b.length
    · rw [List.getElem?_replicate, if_pos hk] at z
      cases z
    · rw [List.getElem?_replicate, if_neg hk] at z
      cases z) k
  unfold lastL
  rw [mem_filt, decide_eq_true_eq, key]
  exact ⟨fun z => z.2, fun z => ⟨forks_lt (rk_sub h k z), z⟩⟩
theorem last_nil {b : Book} {W : Nat} {res : List (Option Int)} {fin : List Nat} (h : LastM b W res fin) : lastL b res = [] ↔ fin = [] := by
  constructor
  · intro e
    rw [List.eq_nil_iff_forall_not_mem]
    exact fun k hk => by have := (last_iff h k).mpr hk; rw [e] at this; cases this
  · intro e
    rw [List.eq_nil_iff_forall_not_mem]
    exact fun k hk => by have := (last_iff h k).mp hk; rw [e] at this; cases this
theorem least_two {b : Book} {res : List (Option Int)} (h : lastL b res = []) : leastM b res ≤ 2 := by
  unfold leastM
  split
  · omega
  · split
    · omega
    · simp [h]
theorem least_three {b : Book} {res : List (Option Int)} (h : leastM b res = 3) : lastL b res ≠ [] := fun e => by
  have := least_two e
  omega
/-! ### a stable set has a knot -/
theorem filt_le {α : Type} {l : List α} {f g : α → Bool} (h : ∀ x ∈ l, f x = true → g x = true) : (l.filter f).length ≤ (l.filter g).length := by
  rw [← List.countP_eq_length_filter, ← List.countP_eq_length_filter]
  exact List.countP_mono_left h
theorem led_rt {b : Book} (fb : FormB b) {t m k : Nat} (ht : t < b.length) (h : k ∈ ledL b t m) : Rt b t k := by
  unfold ledL at h
  split at h
  · cases h
  · exact wi_rt fb ht _ _ h
theorem clo_le {b : Book} (fb : FormB b) {s x : Nat} (hs : s < b.length) (hx : x < b.length) (h1 : Rt b s x) (h2 : ¬ Rt b x s) : (wiL b x (b.length - 1)).length < (wiL b s (b.length - 1)).length := by
  have nd : (s :: wiL b x (b.length - 1)).Nodup := List.nodup_cons.mpr ⟨fun z => h2 (wi_rt fb hx _ _ z), srt_nodup (wiL_srt _ _ _)⟩
  have := List.Nodup.length_le_of_subset nd (l₂ := wiL b s (b.length - 1)) fun z hz => by
    rcases List.mem_cons.mp hz with hz | hz
    · rw [hz]; exact rt_wi fb hs (.refl s)
    · exact rt_wi fb hs (h1.trans (wi_rt fb hx _ _ hz))
  rw [List.length_cons] at this
  omega
theorem bottom {b : Book} (fb : FormB b) {S : List Nat} (hS : ∀ k ∈ S, k < b.length) : ∀ (m s : Nat), s ∈ S → (wiL b s (b.length - 1)).length ≤ m → ∃ s' ∈ S, ∀ x ∈ S, Rt b s' x → Rt b x s' := by
  intro m
  induction m with
  | zero =>
    intro s hs h
    have := rt_wi fb (hS s hs) (.refl s)
    have := List.length_pos_of_mem this
    omega
  | succ m ih =>
    intro s hs h
    by_cases all : ∀ x ∈ S, Rt b s x → Rt b x s
    · exact ⟨s, hs, all⟩
    · obtain ⟨x, hx⟩ := Classical.not_forall.mp all
      obtain ⟨hxS, hx⟩ := Classical.not_imp.mp hx
      obtain ⟨h1, h2⟩ := Classical.not_imp.mp hx
      have := clo_le fb (hS s hs) (hS x hxS) h1 h2
      exact ih x hxS (by omega)
theorem mem_reach {b : Book} (fb : FormB b) {t k : Nat} (ht : t < b.length) : k ∈ reachL b t b.length ↔ Rt b t k := by
  unfold reachL
  exact mem_wi fb ht (by omega)
theorem stable_knot {b : Book} (fb : FormB b) {W : Nat} {S : List Nat} (hS : ∀ k ∈ S, k < b.length) (ne : S ≠ []) (st : ∀ s ∈ S, 2 ≤ (leadM b W s S).length) : knotsM b ≠ [] := by
  obtain ⟨s0, h0⟩ := List.exists_mem_of_ne_nil _ ne
  obtain ⟨s, hs, hb⟩ := bottom fb hS _ s0 h0 (Nat.le_refl _)
  have two := st s hs
  have : s ∈ knotsM b := by
    refine mem_filt.mpr ⟨hS s hs, decide_eq_true ?_⟩
    refine Nat.lt_of_lt_of_le two ?_
    unfold leadM waysM
    rw [List.length_map]
    refine filt_le fun p hp h => ?_
    obtain ⟨k, hk, hkS⟩ := List.any_eq_true.mp h
    have hkS := of_decide_eq_true hkS
    have hp2 := fb.to hp
    have r := led_rt fb hp2 hk
    exact decide_eq_true ((mem_reach fb hp2).mpr (r.trans (hb k hkS ((Rt.one hp).trans r))))
  exact List.ne_nil_of_mem this
theorem no_knots {b : Book} (fb : FormB b) (h : knotsM b = []) {W : Nat} {res : List (Option Int)} {fin : List Nat} (hL : LastM b W res fin) : lastL b res = [] := by
  rw [last_nil hL]
  by_cases e : fin = []
  · exact e
  · exact absurd h (stable_knot fb (fun k hk => forks_lt (rk_sub hL k hk)) e (rk_stable hL))
theorem win_one {b : Book} {res : List (Option Int)} {fin : List Nat} (hL : LastM b 1 res fin) : lastL b res = [] := by
  rw [last_nil hL, List.eq_nil_iff_forall_not_mem]
  intro k hk
  have := rk_stable hL k hk
  have e : leadM b 1 k fin = [] := by
    unfold leadM
    have : (mvs b k).filter (fun p => (ledL b p.2 (1 - 1)).any fun k => decide (k ∈ fin)) = [] := List.filter_eq_nil_iff.mpr fun p _ => by simp [ledL]
    rw [this]
    rfl
  rw [e] at this
  simp at this
/-! ### a knot lasts for the window behind its second shortest way back -/
theorem ends_mono {b : Book} (fb : FormB b) {t : Nat} (ht : t < b.length) {m n k : Nat} (h : m ≤ n) (hk : k ∈ endsL b t m) : k ∈ endsL b t n := by
  obtain ⟨j, hj, e⟩ := (mem_ends fb ht).mp hk
  exact (mem_ends fb ht).mpr ⟨j, by omega, e⟩
theorem first_mem {b : Book} {s t k : Nat} (h : k ∈ firstM b s t) : 1 ≤ k ∧ k ≤ b.length ∧ s ∈ endsL b t k := by
  unfold firstM at h
  have h := List.mem_filter.mp (List.mem_of_mem_take h)
  have h1 := List.mem_range'_1.mp h.1
  exact ⟨h1.1, by omega, of_decide_eq_true h.2⟩
theorem first_some {b : Book} (fb : FormB b) {s t : Nat} (ht : t < b.length) (h : Rt b t s) : (firstM b s t).length = 1 := by
  have h1 := fb.one
  have hm : b.length ∈ (List.range' 1 b.length).filter fun m => decide (s ∈ endsL b t m) := by
    refine List.mem_filter.mpr ⟨List.mem_range'_1.mpr ⟨h1, by omega⟩, decide_eq_true ?_⟩
    unfold endsL
    rw [if_neg (by omega)]
    exact rt_wi fb ht h
  have := List.length_pos_of_mem hm
  unfold firstM
  rw [List.length_take]
  omega
theorem backs_ge {b : Book} (fb : FormB b) (s : Nat) : ∀ st : State, (∀ p ∈ st, p.2 < b.length) → (st.filter fun p => decide (s ∈ reachL b p.2 b.length)).length ≤ (backsM b s st).length
  | [], _ => Nat.le_refl _
  | p :: r, h => by
    have ih := backs_ge fb s r fun q hq => h q (List.mem_cons_of_mem _ hq)
    have hp := h p (by simp)
    show _ ≤ ((firstM b s p.2) ++ backsM b s r).length
    rw [List.length_append, List.filter_cons]
    by_cases e : s ∈ reachL b p.2 b.length
    · have := first_some fb hp ((mem_reach fb hp).mp e)
      rw [if_pos (decide_eq_true e), List.length_cons]
      omega
    · rw [if_neg (by simpa using e)]
      omega
theorem backs_le {b : Book} (fb : FormB b) (s m : Nat) : ∀ st : State, (∀ p ∈ st, p.2 < b.length) → (backsM b s st).countP (fun k => decide (k ≤ m)) ≤ (st.filter fun p => decide (s ∈ endsL b p.2 m)).length
  | [], _ => Nat.le_refl _
  | p :: r, h => by
    have ih := backs_le fb s m r fun q hq => h q (List.mem_cons_of_mem _ hq)
    have hp := h p (by simp)
    show ((firstM b s p.2) ++ backsM b s r).countP _ ≤ _
    rw [List.countP_append, List.filter_cons]
    by_cases e : s ∈ endsL b p.2 m
    · rw [if_pos (decide_eq_true e), List.length_cons]
      have : (firstM b s p.2).countP (fun k => decide (k ≤ m)) ≤ 1 := Nat.le_trans List.countP_le_length (by unfold firstM; rw [List.length_take]; omega)
      omega
    · rw [if_neg (by simpa using e)]
      have : (firstM b s p.2).countP (fun k => decide (k ≤ m)) = 0 := by
        rw [List.countP_eq_zero]
        intro k hk z
        have z := of_decide_eq_true z
        exact e (ends_mono fb hp z (first_mem hk).2.2)
      omega
theorem backs_mem {b : Book} {s k : Nat} {st : State} (h : k ∈ backsM b s st) : 1 ≤ k ∧ k ≤ b.length := by
  obtain ⟨p, _, hp⟩ := List.mem_flatMap.mp h
  have := first_mem hp
  exact ⟨this.1, this.2.1⟩
theorem knot_win {b : Book} (fb : FormB b) {s : Nat} (hs : s ∈ knotsM b) {ms : List Nat} (hp : ms.Perm (backsM b s (mvs b s))) (hr : ms.Pairwise (· ≤ ·)) :
    ∃ m, ms[1]? = some m ∧ 1 ≤ m ∧ m ≤ b.length ∧ ∀ goals : List Nat, s ∈ goals → 2 ≤ (leadM b (m + 1) s goals).length := by
  have to : ∀ p ∈ mvs b s, p.2 < b.length := fun p hp => fb.to hp
  have hk := of_decide_eq_true (mem_filt.mp hs).2
  have hl : 2 ≤ ms.length := by
    rw [hp.length_eq]
    exact Nat.le_trans hk (backs_ge fb s _ to)
  match ms, hl, hp, hr with
  | x :: y :: r, _, hp, hr =>
    have hxy : x ≤ y := (List.pairwise_cons.mp hr).1 y (by simp)
    have hy := backs_mem (hp.mem_iff.mp (show y ∈ x :: y :: r by simp))
    refine ⟨y, rfl, hy.1, hy.2, fun goals hg => ?_⟩
    have c2 : 2 ≤ (x :: y :: r).countP (fun k => decide (k ≤ y)) := by
      rw [List.countP_cons, List.countP_cons]
      simp [hxy]
    rw [hp.countP_eq] at c2
    have := backs_le fb s y _ to
    refine Nat.le_trans (Nat.le_trans c2 this) ?_
    unfold leadM
    rw [List.length_map]
    refine filt_le fun p hp h => ?_
    have h := of_decide_eq_true h
    refine List.any_eq_true.mpr ⟨s, ?_, decide_eq_true hg⟩
    unfold endsL at h
    rw [if_neg (by omega)] at h
    unfold ledL reachL
    rw [if_neg (by omega)]
    have : min (y + 1 - 1 - 1) b.length = y - 1 := by omega
    rw [this]
    exact h
theorem knot_fork {b : Book} {s : Nat} (hs : s ∈ knotsM b) : s ∈ forksM b ∧ s < b.length := by
  have h := mem_filt.mp hs
  refine ⟨mem_filt.mpr ⟨h.1, decide_eq_true ?_⟩, h.1⟩
  have := of_decide_eq_true h.2
  unfold waysM at this
  exact Nat.lt_of_lt_of_le this (List.length_filter_le _ _)
theorem rch_zero {b : Book} (e : mvs b 0 = []) {s : Nat} (h : Rch b s) : s = 0 := by
  induction h with
  | zero => rfl
  | step _ hp ih =>
    rw [ih, e] at hp
    cases hp
theorem knot_three {b : Book} (ok : OkB b) {s m : Nat} (hs : s ∈ knotsM b) (two : ∀ goals : List Nat, s ∈ goals → 2 ≤ (leadM b (m + 1) s goals).length) {res : List (Option Int)} {fin : List Nat} (hL : LastM b (m + 1) res fin) :
    s ∈ lastL b res ∧ leastM b res = 3 := by
  obtain ⟨hf, hlt⟩ := knot_fork hs
  have h1 : s ∈ lastL b res := (last_iff hL s).mpr (rk_stay hL hf two)
  refine ⟨h1, ?_⟩
  unfold leastM
  rw [if_neg, if_neg (List.ne_nil_of_mem hf), if_neg (List.ne_nil_of_mem h1)]
  intro e
  have := rch_zero e (ok.reach s hlt)
  subst this
  have := of_decide_eq_true (mem_filt.mp hf).2
  rw [e] at this
  simp at this
/-- the first window, where there are knots -/
theorem from_knot {b : Book} (ok : OkB b) {o : Option Nat} (h : FromW b o) {s : Nat} (hs : s ∈ knotsM b) : ∃ W, o = some W ∧ 2 ≤ W ∧ W ≤ 9 := by
  have fb := ok.toFormB
  obtain ⟨ms, hp, hr⟩ : ∃ ms : List Nat, ms.Perm (backsM b s (mvs b s)) ∧ ms.Pairwise (· ≤ ·) :=
    ⟨(backsM b s (mvs b s)).mergeSort, List.mergeSort_perm _ _, by
      have := List.pairwise_mergeSort (le := fun a b : Nat => decide (a ≤ b)) (by simp; omega) (by simp; omega) (backsM b s (mvs b s))
      exact List.Pairwise.imp (fun h => of_decide_eq_true h) this⟩
  obtain ⟨m, _, m1, m2, two⟩ := knot_win fb hs hp hr
  have h8 := fb.eight
  cases o with
  | none =>
    exfalso
    obtain ⟨res, fin, hL⟩ := rk_ex b (m + 1) _ 0 (forksM b) (List.replicate b.length none) (Nat.le_refl _)
    exact h (m + 1) (by omega) (by omega) res fin hL (knot_three ok hs two hL).2
  | some W =>
    obtain ⟨w1, w9, ⟨res, fin, hL, e⟩, _⟩ := h
    refine ⟨W, rfl, ?_, w9⟩
    by_cases hW : W = 1
    · subst hW
      exact absurd (win_one hL) (least_three e)
    · omega
theorem from_le {b : Book} {W V : Nat} (h : FromW b (some W)) (hV : 1 ≤ V) {res : List (Option Int)} {fin : List Nat} (hL : LastM b V res fin) (e : leastM b res = 3) : W ≤ V := by
  by_cases hlt : W ≤ V
  · exact hlt
  · exact absurd e (h.2.2.2 V hV (by omega) res fin hL)
theorem from_none {b : Book} (fb : FormB b) (h : knotsM b = []) {o : Option Nat} (hw : FromW b o) : o = none := by
  cases o with
  | none => rfl
  | some W =>
    obtain ⟨_, _, ⟨res, fin, hL, e⟩, _⟩ := hw
    exact absurd (no_knots fb h hL) (least_three e)
end Nv
set_option Elab.async false
set_option linter.all false
set_option maxRecDepth 100000
namespace Nv
open PySem PySem.Spec PyProof.Rows L2
section
variable {P : Program} {w : World} {K : PySem.W.Frag} {mg : Str → Option Value} {base : Heap}
/-! ### the law's books: ringed -/
structure TlK (n k : Nat) (s : State) : Prop where
  few : s.length ≤ k
  rise : (s.map (·.1)).Pairwise (· < ·)
  key : ∀ q ∈ s, q.1 ≤ k
  to : ∀ q ∈ s, q.2 ≤ n
theorem TlK.up {n k : Nat} {s : State} (h : TlK n k s) : TlK n (k + 1) s := ⟨Nat.le_succ_of_le h.few, h.rise, fun q hq => Nat.le_succ_of_le (h.key q hq), h.to⟩
theorem TlK.push {n k y : Nat} {s : State} (h : TlK n k s) (hy : y ≤ n) : TlK n (k + 1) (s ++ [(k + 1, y)]) := by
  refine ⟨by rw [List.length_append]; exact Nat.succ_le_succ h.few, ?_, fun q hq => ?_, fun q hq => ?_⟩
  · rw [List.map_append, List.pairwise_append]
    refine ⟨h.rise, by simp, fun x hx z hz => ?_⟩
    obtain ⟨q, hq, rfl⟩ := List.mem_map.mp hx
    have := h.key q hq
    simp at hz
    omega
  · rcases List.mem_append.mp hq with hq | hq
    · exact Nat.le_succ_of_le (h.key q hq)
    · rw [List.mem_singleton.mp hq]; exact Nat.le_refl _
  · rcases List.mem_append.mp hq with hq | hq
    · exact h.to q hq
    · rw [List.mem_singleton.mp hq]; exact hy
theorem sc_law_ringed : FnScope ["pool", "size", "moves", "state", "told"] ["pool"] (defScope s_law_ringed) := ⟨rfl, rfl, rfl, by decide +kernel, rfl, by decide +kernel, by decide +kernel⟩
def sp_law_ringed (K : PySem.W.Frag) : Sp := fun vs H Q _ => ∃ (p l : Addr), vs = [.ref p] ∧ PoolAt H p l ∧ ∀ (b : Book) (v : V) (H' : Hp), OkB b → BkV K H' v b → PoolAt H' p l → Ext [p, l] H H' → Q v H'
theorem ok_law_ringed (T : Tx K mg) : FnOk P w K mg base CX0 2 T.law_ringed.f T.law_ringed.fd ["pool"] (sp_law_ringed K) := by
  refine T.law_ringed.F.ok sc_law_ringed (fun vs H Q E h => ?_) (fun cdv A outer s H vs Q E hr h => ?_)
  · obtain ⟨p, l, rfl, _⟩ := h; rfl
  · obtain ⟨p, l, rfl, hP, q⟩ := h
    refine ⟨_, (pss_cons (ps_par (i := 1) (j := 2) (by rfl) sc_law_ringed.nd rfl rfl (by decide) rfl rfl (pa_cons (pe_op op_add pe_int (pe_call (ok_law_draw T) (hr.mono (by decide)) (by rfl) T.law_draw.g T.law_draw.F.kp T.law_draw.b .nil pass0 (pa_cons (pv 0) (pa_cons pe_int pa_nil)))) (pa_cons (pe_lst pa_nil) pa_nil)) (by rfl))
      (pss_cons (ps_for PassesOwn.never rfl (pi_range1 (by rfl) T.n_range (pa_cons (pv 1) pa_nil)) (pg_name (i := 3) sc_law_ringed.nd rfl (.inl rfl))
        (pss_cons (ps_set (i := 4) sc_law_ringed.nd rfl (.inl rfl) (pe_lst (pa_cons (pe_tup (pa_cons pe_int (pa_cons (pe_op op_mod (pe_callTy call_int1 (by rfl) T.n_int (by decide +kernel) (pa_cons (pe_op op_add (pv 3) pe_int) pa_nil)) (pv 1)) pa_nil))) pa_nil)))
        (C8.pss_cut (ps_if (pt_cmpR op_eq (pe_call (ok_law_draw T) (hr.mono (by decide)) (by rfl) T.law_draw.g T.law_draw.F.kp T.law_draw.b .nil pass0 (pa_cons (pv 0) (pa_cons pe_int pa_nil))) pe_int (nomark _))
          (pss_one (ps_expr (pe_bm PySem.F.plainAttrs_list PySem.F.slot_list_append PySem.F.type_list_append mt_append (pv 4) (pa_cons (pe_tup (pa_cons pe_int (pa_cons (pv 1) pa_nil))) pa_nil))))
          pss_nil)
        (C8.pss_cut (ps_if (pt_cmpR op_eq (pe_call (ok_law_draw T) (hr.mono (by decide)) (by rfl) T.law_draw.g T.law_draw.F.kp T.law_draw.b .nil pass0 (pa_cons (pv 0) (pa_cons pe_int pa_nil))) pe_int (nomark _))
          (pss_one (ps_expr (pe_bm PySem.F.plainAttrs_list PySem.F.slot_list_append PySem.F.type_list_append mt_append (pv 4) (pa_cons (pe_tup (pa_cons pe_int (pa_cons (pe_call (ok_law_draw T) (hr.mono (by decide)) (by rfl) T.law_draw.g T.law_draw.F.kp T.law_draw.b .nil pass0 (pa_cons (pv 0) (pa_cons (pv 1) pa_nil))) pa_nil))) pa_nil))))
          pss_nil)
        (pss_one (ps_expr (pe_bm PySem.F.plainAttrs_list PySem.F.slot_list_append PySem.F.type_list_append mt_append (pv 2) (pa_cons (pv 4) pa_nil))))))))
      (pss_one (ps_ret (pe_call (ok_law_book_meeting T) (hr.mono (by decide)) (by rfl) T.law_book_meeting.g T.law_book_meeting.F.kp T.law_book_meeting.b .nil pass0 (pa_cons (pe_op op_cat (pv 2) (pe_lst (pa_cons (pe_lst pa_nil) pa_nil))) pa_nil)))))), ?_⟩
    refine ⟨_, rfl, p, l, 4, rfl, hP, by decide, by decide, fun r H1 r0 r1 P1 e1 => ⟨_, _, rfl, rfl, ?_⟩⟩
    refine ⟨Nat.zero_le _, fun mv hmv => ⟨_, _, rfl, ?_⟩⟩
    obtain ⟨n, hn⟩ : ∃ n : Nat, 1 + r = (n : Int) := ⟨(1 + r).toNat, by omega⟩
    have hn1 : 1 ≤ n := by omega
    have hn4 : n ≤ 4 := by omega
    show _
    simp only [hn]
    obtain ⟨mp, ml⟩ := P1.off hmv
    have fmv : H mv = none := e1.free2 hmv (off2 mp ml)
    refine ⟨_, rfl, _, rfl, by omega, by omega, for_range (lo := 0) (n := _) (fun i σ H' => ∃ (vs : List V) (b : Book) (y3 y4 : Option V), σ = [some (.ref p), some (.int n), some (.ref mv), y3, y4] ∧ b.length = i ∧
      H' mv = some (.lst vs) ∧ Paired (LsN K H' [p, l, mv]) vs b ∧ (∀ s ∈ b, TlK n 3 s) ∧ PoolAt H' p l ∧ Ext [p, l] H H')
      ⟨[], [], _, _, rfl, rfl, upd_same, .nil, (fun s z => nomatch z), P1.put mp ml, e1.put' fmv⟩ ?_ ?_⟩
    · rintro i σ H' hi ⟨vs, b, y3, y4, rfl, hbl, hv, hpd, hst, P', e'⟩
      have hi : i < n := by have : ((n : Int)).toNat = n := Int.toNat_natCast _; omega
      simp only [Int.zero_add]
      -- told
      refine ⟨_, rfl, _, _, rfl, rfl, .inl ⟨_, rfl, _, rfl, _, _, rfl, rfl, (by show (0 : Int) < n; omega), (by show 2 ≤ sizeLine; decide), fun nt hnt => ?_⟩⟩
      refine ⟨(by show 1 ≤ sizeLine; decide), fun td htd => ?_⟩
      have x0 : Ext [] H' (upd (upd H' nt (.tup [.int 1, .int (((i : Int) + 1) % n)])) td (.lst [.ref nt])) := (Ext.new (L := []) hnt).put2 htd
      have ftd : H' td = none := (Ext.new (L := []) hnt).free htd
      obtain ⟨tdp, tdl⟩ := P'.off ftd
      have tdmv : td ≠ mv := fun z => by rw [z, hv] at ftd; cases ftd
      have ttd : nt ≠ td := fun z => by rw [← z, upd_same] at htd; cases htd
      obtain ⟨x, hx, hxn⟩ : ∃ x : Nat, ((i : Int) + 1) % n = (x : Int) ∧ x ≤ n := ⟨(((i : Int) + 1) % n).toNat, by rw [Int.toNat_of_nonneg (Int.emod_nonneg _ (by omega))], by
        have := Int.emod_lt_of_pos ((i : Int) + 1) (show (0 : Int) < n by omega)
        have := Int.emod_nonneg ((i : Int) + 1) (show (n : Int) ≠ 0 by omega)
        omega⟩
      have t0 : TlK n 1 [(1, x)] := ⟨by simp, by simp, by simp, fun q hq => by rw [List.mem_singleton.mp hq]; exact hxn⟩
      have hm0 : Paired (MvV K (upd (upd H' nt (.tup [.int 1, .int (((i : Int) + 1) % n)])) td (.lst [.ref nt]))) [nt] [(1, x)] := by
        refine .cons ?_ .nil
        refine .of ?_
        rw [upd_ne ttd, upd_same, hx]
        rfl
      have P0 := P'.ext0 x0
      have hd0 : upd (upd H' nt (.tup [.int 1, .int (((i : Int) + 1) % n)])) td (.lst [.ref nt]) td = some (.lst (([nt] : List Addr).map V.ref)) := upd_same
      show C8.tCut _ _ _ _ _
      generalize upd (upd H' nt (.tup [.int 1, .int (((i : Int) + 1) % n)])) td (.lst [.ref nt]) = H0 at *
      refine ⟨fun σ H8 => ∃ (ps : List Addr) (tl : State), σ = [some (.ref p), some (.int n), some (.ref mv), some (.int i), some (.ref td)] ∧ H8 td = some (.lst (ps.map V.ref)) ∧ Paired (MvV K H8) ps tl ∧ TlK n 2 tl ∧ PoolAt H8 p l ∧ Ext [p, l] H' H8, ?_, ?_⟩
      · refine ⟨_, rfl, p, l, 2, rfl, P0, by decide, by decide, fun r2 H9 _ _ P9 e9 => ⟨rfl, _, rfl, ?_⟩⟩
        have x9 : Ext [p, l] H' H9 := x0.weak.trans e9
        have hd9 := e9 _ _ (off2 tdp tdl) hd0
        have hm9 : Paired (MvV K H9) [nt] [(1, x)] := Paired.imp hm0 fun _ _ z => e9.tup P0.lsts z
        refine ite2 (fun z => ?_) (fun z => ⟨_, _, rfl, hd9, hm9, t0.up, P9, x9⟩)
        refine ⟨_, rfl, .inl ⟨rfl, _, .of hd9⟩, _, rfl, (by show 2 ≤ sizeLine; decide), fun nt2 hnt2 => ?_⟩
        have e10 : Ext [] H9 (upd H9 nt2 (.tup [.int 2, .int n])) := .new hnt2
        have hd10 := e10.at hd9 (by simp)
        obtain ⟨np, nl⟩ := P9.off hnt2
        refine ⟨td, _, _, rfl, rfl, hd10, by show 1 < sizeLine; decide, [nt] ++ [nt2], [(1, x)] ++ [(2, n)], rfl, by rw [upd_same, List.map_append]; rfl, ?_, t0.push (Nat.le_refl n), (P9.put np nl).put tdp tdl, (x9.trans e10.weak).put' ftd⟩
        refine Paired.snoc ?_ (Paired.imp hm9 fun _ _ z => (z.ext0 e10).put hd10)
        exact MvV.put (m := (2, n)) (.of upd_same) hd10
      · rintro σ H8 ⟨ps, tl, rfl, hd8, hm8, t8, P8, x8⟩
        clear hm0 hd0 P0 x0
        have plen := Paired.len hm8
        have few := t8.few
        refine ⟨fun σ H8 => ∃ (ps : List Addr) (tl : State), σ = [some (.ref p), some (.int n), some (.ref mv), some (.int i), some (.ref td)] ∧ H8 td = some (.lst (ps.map V.ref)) ∧ Paired (MvV K H8) ps tl ∧ TlK n 3 tl ∧ PoolAt H8 p l ∧ Ext [p, l] H' H8, ?_, ?_⟩
        · refine ⟨_, rfl, p, l, 5, rfl, P8, by decide, by decide, fun r2 H9 _ _ P9 e9 => ⟨rfl, _, rfl, ?_⟩⟩
          have x9 : Ext [p, l] H' H9 := x8.trans e9
          have hd9 := e9 _ _ (off2 tdp tdl) hd8
          have hm9 : Paired (MvV K H9) ps tl := Paired.imp hm8 fun _ _ z => e9.tup P8.lsts z
          refine ite2 (fun z => ?_) (fun z => ⟨_, _, rfl, hd9, hm9, t8.up, P9, x9⟩)
          refine ⟨_, rfl, .inl ⟨rfl, _, .of hd9⟩, _, rfl, _, rfl, p, l, n, rfl, P9, by omega, by omega, fun y Ha y0 y1 Pa ea => ⟨(by show 2 ≤ sizeLine; decide), fun nt2 hnt2 => ?_⟩⟩
          obtain ⟨y, rfl⟩ : ∃ j : Nat, y = (j : Int) := ⟨y.toNat, by omega⟩
          have hda := ea _ _ (off2 tdp tdl) hd9
          have hma : Paired (MvV K Ha) ps tl := Paired.imp hm9 fun _ _ z => ea.tup P9.lsts z
          have e10 : Ext [] Ha (upd Ha nt2 (.tup [.int 3, .int y])) := .new hnt2
          have hd10 := e10.at hda (by simp)
          obtain ⟨np, nl⟩ := Pa.off hnt2
          refine ⟨td, _, _, rfl, rfl, hd10, by rw [List.length_map]; exact small1000 (by omega), ps ++ [nt2], tl ++ [(3, y)], rfl, by rw [upd_same, List.map_append]; rfl, ?_, t8.push (by omega), (Pa.put np nl).put tdp tdl, ((x9.trans ea).trans e10.weak).put' ftd⟩
          refine Paired.snoc ?_ (Paired.imp hma fun _ _ z => (z.ext0 e10).put hd10)
          exact MvV.put (m := (3, y)) (.of upd_same) hd10
        · rintro σ H9 ⟨ps, tl, rfl, hd9, hm9, t9, P9, x9⟩
          have hv9 := x9 _ _ (off2 mp ml) hv
          have hpd9 : Paired (LsN K H9 [p, l, mv]) vs b := Paired.imp hpd fun _ _ z => z.ext x9 (by simp) P'.lsts
          have l3 : Lsts [mv] H9 := one_lst hv9
          refine ⟨_, rfl, .inl ⟨rfl, _, .of hv9⟩, _, rfl, mv, _, _, rfl, rfl, hv9, by rw [Paired.len hpd9]; exact small1000 (by omega), vs ++ [.ref td], b ++ [tl], _, _, rfl, by rw [List.length_append, hbl]; rfl, upd_same, ?_, fun s hs => ?_, P9.put mp ml, (e'.trans x9).put' fmv⟩
          · refine Paired.snoc ⟨td, ps, rfl, ?_, by rw [upd_ne tdmv]; exact hd9, Paired.imp hm9 fun _ _ z => z.put hv9⟩ (Paired.imp hpd9 fun _ _ z => z.ext (Y := [mv]) (.wr (by simp)) (by simp) l3)
            simp [tdp, tdl, tdmv]
          · rcases List.mem_append.mp hs with hs | hs
            · exact hst s hs
            · obtain rfl := List.mem_singleton.mp hs
              exact t9
    · rintro σ H' ⟨vs, b, y3, y4, rfl, hbl, hv, hpd, hst, P', e'⟩
      rw [Int.toNat_natCast] at hbl
      -- moves + [[]]
      refine ⟨_, rfl, Nat.zero_le _, fun z1 hz1 => ⟨(by show 1 ≤ sizeLine; decide), fun z2 hz2 => ?_⟩⟩
      have x0 : Ext [] H' (upd (upd H' z1 (.lst [])) z2 (.lst [.ref z1])) := (Ext.new (L := []) hz1).put2 hz2
      have z12 : z1 ≠ z2 := fun z => by rw [← z, upd_same] at hz2; cases hz2
      have hz1' : upd (upd H' z1 (.lst [])) z2 (.lst [.ref z1]) z1 = some (.lst []) := by rw [upd_ne z12, upd_same]
      refine ⟨mv, z2, _, _, rfl, rfl, x0.at hv (by simp), upd_same, by rw [Paired.len hpd]; exact Nat.le_of_lt (small1000 (by show b.length + 1 ≤ 1000; omega)), fun c hc => ?_⟩
      have x1 := x0.put2 (o := .lst (vs ++ [.ref z1])) hc
      generalize hG : upd (upd H' z1 (.lst [])) z2 (.lst [.ref z1]) = G at *
      have hlb : LbV K (upd G c (.lst (vs ++ [.ref z1]))) (.ref c) (b ++ [[]]) := by
        refine ⟨c, _, rfl, upd_same, Paired.snoc ⟨z1, [], rfl, ?_, .nil⟩ (Paired.imp hpd fun _ _ z => z.ls.ext0 x1)⟩
        rw [upd_ne (ne_of_none hz1' hc)]
        exact hz1'
      have bl : (b ++ [[]]).length = n + 1 := by rw [List.length_append, hbl]; rfl
      have tk : ∀ s, TlK n 3 (mvs (b ++ [[]]) s) := fun s => by
        by_cases hs : s < (b ++ [[]]).length
        · rcases List.mem_append.mp (mvs_mem hs) with h | h
          · exact hst _ h
          · rw [List.mem_singleton.mp h]
            exact ⟨Nat.zero_le _, .nil, (fun z hz => nomatch hz), fun z hz => nomatch hz⟩
        · rw [mvs_out (by omega)]
          exact ⟨Nat.zero_le _, .nil, (fun z hz => nomatch hz), fun z hz => nomatch hz⟩
      refine ⟨.ref c, b ++ [[]], rfl, hlb, by omega, by omega, fun s => ⟨Nat.le_trans (tk s).few (by omega), fun z hz => by have := (tk s).to z hz; omega⟩, fun F v H3 mt hbk e3 => ?_⟩
      have ok := mt.okB (by omega) fun s hs => ⟨Nat.le_trans (tk s).few (by omega), (tk s).rise, fun q hq => Nat.le_trans ((tk s).key q hq) (by omega)⟩
      exact q _ v _ ok hbk ((P'.ext0 x1).ext0 e3) ((e'.trans x1.weak).trans e3.weak)
end
end Nv
set_option Elab.async false
set_option linter.all false
set_option maxRecDepth 100000
namespace Nv
open PySem PySem.Spec PyProof.Rows L2
section
variable {P : Program} {w : World} {K : PySem.W.Frag} {mg : Str → Option Value} {base : Heap}
/-! ### is the book right -/
def sp_law_is_whole : Sp := fun vs H Q _ => ∃ i : Int, vs = [.int i] ∧ Q (.bl true) H
theorem ok_law_is_whole (T : Tx K mg) : FnOk P w K mg base CX0 1 T.law_is_whole.f T.law_is_whole.fd ["thing"] sp_law_is_whole := by
  refine T.law_is_whole.F.ok sc_law_is_whole (fun vs H Q E h => ?_) (fun cdv A outer s H vs Q E hr h => ?_)
  · obtain ⟨i, rfl, _⟩ := h; rfl
  · obtain ⟨i, rfl, q⟩ := h
    refine ⟨_, (pss_one (ps_ret (pe_and (pe_callB call_isi (by rfl) T.n_isinstance (by decide +kernel) (pa_cons (pv 0) (pa_cons (pe_bltn (v := .ty "int") (by rfl) T.n_int (by decide +kernel) rfl) pa_nil))) (pe_one (pe_not (pe_callB call_isi (by rfl) T.n_isinstance (by decide +kernel) (pa_cons (pv 0) (pa_cons (pe_bltn (v := .ty "bool") (by rfl) T.n_bool (by decide +kernel) rfl) pa_nil)))))))), ?_⟩
    refine ⟨_, rfl, _, _, _, _, _, rfl, .ty _, .base (.int i), kit_ty (b := "int") (r := true) (by decide +kernel), true, rfl, iteT ⟨_, rfl, _, _, _, _, _, rfl, .ty _, .base (.int i), kit_ty (b := "bool") (r := false) (by decide +kernel), false, rfl, q⟩⟩
theorem nat_short {n : Nat} (h : n < 8) : PyData.leavesShort 8 (.int (n : Int)) = true := by
  have : n = 0 ∨ n = 1 ∨ n = 2 ∨ n = 3 ∨ n = 4 ∨ n = 5 ∨ n = 6 ∨ n = 7 := by omega
  rcases this with rfl | rfl | rfl | rfl | rfl | rfl | rfl | rfl <;> decide +kernel
abbrev iN (l : List Nat) : List Int := l.map fun n : Nat => (n : Int)
theorem nats_short : ∀ l : List Nat, (∀ n ∈ l, n < 8) → PyData.leavesShortAll 8 ((iN l).map PyData.int) = true
  | [], _ => rfl
  | n :: r, h => by
    have h1 := nat_short (h n (by simp))
    have h2 := nats_short r fun m hm => h m (by simp [hm])
    simp only [iN, List.map_cons, PyData.leavesShortAll, h1, h2, Bool.and_true]
theorem ints_bulk : ∀ l : List Int, PyData.bulkAll (l.map PyData.int) = l.length
  | [] => rfl
  | n :: r => by
    simp only [List.map_cons, PyData.bulkAll, PyData.bulk, ints_bulk r, List.length_cons]
    omega
/-- what is shown of a tuple of few small numbers -/
structure ShowOk (d : PyData) : Prop where
  a : d.showable = true
  b : d.hasDict = false
  c : d.depth ≤ 60
  d : d.shown.length ≤ sizeLine
theorem show_nats {l : List Nat} (h : ∀ n ∈ l, n < 8) (hl : l.length ≤ 8) : ShowOk (.tuple ((iN l).map PyData.int)) where
  a := by
    show PyData.showableAll _ = true
    exact ints_show _ fun z hz => by
      obtain ⟨n, hn, rfl⟩ := List.mem_map.mp hz
      have := h n hn
      omega
  b := by
    show PyData.hasDictAll _ = false
    exact ints_nodict _
  c := by
    show PyData.depthAll _ + 1 ≤ 60
    rw [ints_depth]
    decide
  d := by
    have k := PyData.shown_le_bulk 8 (Nat.le_refl _) (.tuple ((iN l).map PyData.int)) (by show PyData.leavesShortAll 8 _ = true; exact nats_short l h)
    have e : PyData.bulk (.tuple ((iN l).map PyData.int)) = l.length := by
      show PyData.bulkAll _ = _
      rw [ints_bulk, List.length_map]
    rw [e] at k
    exact Nat.le_of_lt (small1000 (by omega))
theorem eqv_nilT {ns : List Int} : PyData.eqv (.tuple (ns.map PyData.int)) (.tuple []) = decide (ns = []) := by
  have h := ints_eqv ns []
  simpa [PyData.eqv] using h
theorem iN_nil {l : List Nat} : iN l = [] ↔ l = [] := by cases l <;> simp
theorem sc_law_right : FnScope ["book", "due", "told", "state", "window"] ["book"] (defScope s_law_right) := ⟨rfl, rfl, rfl, by decide +kernel, rfl, by decide +kernel, by decide +kernel⟩
def sp_law_right (K : PySem.W.Frag) : Sp := fun vs H Q _ => ∃ (v : V) (b : Book), vs = [v] ∧ BkV K H v b ∧ OkB b ∧ ∀ H', Ext [] H H' → Q (.bl true) H'
theorem ok_law_right (T : Tx K mg) : FnG P w K mg base CX0 8 T.law_right.f T.law_right.fd ["book"] (sp_law_right K) := by
  refine FunG.ok T.law_right.F sc_law_right (fun vs H Q E h => ?_) (fun cdv A outer s H vs Q E hG hr h => ?_)
  · obtain ⟨v, b, rfl, _⟩ := h; rfl
  · obtain ⟨v, b, rfl, hb, ok, q⟩ := h
    have fb := ok.toFormB
    have h8 := fb.eight
    refine ⟨_, (pss_cons (ps_par (i := 1) (j := 2) (by rfl) sc_law_right.nd rfl rfl (by decide) rfl rfl (pa_cons (pe_call (ok_law_win_knots T) (hr.mono (by decide)) (by rfl) T.law_win_knots.g T.law_win_knots.F.kp T.law_win_knots.b .nil pass0 (pa_cons (pv 0) pa_nil)) (pa_cons (pe_call (ok_from_window T) (hr.mono (by decide)) (by rfl) T.from_window.g T.from_window.F.kp T.from_window.b .nil pass0 (pa_cons (pv 0) pa_nil)) pa_nil)) (by rfl))
      (pss_cons (ps_if (PW.pt (pw_or (pt_cmpR op_ne (pe_callB (call_reprD hr.units hG) (by rfl) T.n_repr (by decide +kernel) (pa_cons (pe_call (ok_knots T) (hr.mono (by decide)) (by rfl) T.knots.g T.knots.F.kp T.knots.b .nil pass0 (pa_cons (pv 0) pa_nil)) pa_nil)) (pe_callB (call_reprD hr.units hG) (by rfl) T.n_repr (by decide +kernel) (pa_cons (pe_callTy call_tupZ (by rfl) T.n_tuple (by decide +kernel) (pa_cons (pv 1) pa_nil)) pa_nil)) (nomark _)) (pw_or1 (pt_cmpR op_ne (pe_cmpR op_isN (pv 2) pe_non (nomark _)) (pe_cmpR (op_eqD (hr.units)) (pv 1) (pe_lst pa_nil) (nomark _)) (nomark _)))))
        (pss_one (ps_ret pe_bl))
        pss_nil)
      (pss_cons (ps_if (pt_cmpR (op_eqD (hr.units)) (pv 1) (pe_lst pa_nil) (nomark _))
        (pss_one (ps_ret (pe_and (pe_cmpR op_in_seq (pe_call (ok_least_wires T) (hr.mono (by decide)) (by rfl) T.least_wires.g T.least_wires.F.kp T.least_wires.b .nil pass0 (pa_cons (pv 0) (pa_cons pe_int pa_nil))) (pe_lst (pa_cons pe_int (pa_cons pe_int (pa_cons pe_int pa_nil)))) (by rfl)) (pe_one (pe_cmpR (op_eqD (hr.units)) (pe_call (ok_lasting T) (hr.mono (by decide)) (by rfl) T.lasting.g T.lasting.F.kp T.lasting.b .nil pass0 (pa_cons (pv 0) (pa_cons pe_int pa_nil))) (pe_tup pa_nil) (nomark _))))))
        pss_nil)
      (pss_cons (ps_if (PW.pt (pw_or (pt_not (pt_val (pe_call (ok_law_is_whole T) (hr.mono (by decide)) (by rfl) T.law_is_whole.g T.law_is_whole.F.kp T.law_is_whole.b .nil pass0 (pa_cons (pv 2) pa_nil)))) (pw_or1 (pt_not (pt_chain op_le op_le pe_int (pv 2) pe_int)))))
        (pss_one (ps_ret pe_bl))
        pss_nil)
      (pss_cons (ps_for PassesOwn.never rfl (pi_list (pv 1)) (pg_name (i := 3) sc_law_right.nd rfl (.inl rfl))
        (pss_cons (ps_set (i := 4) sc_law_right.nd rfl (.inl rfl) (pe_op op_add (pe_ix ix_list (pe_call (ok_law_ways_back T) (hr.mono (by decide)) (by rfl) T.law_ways_back.g T.law_ways_back.F.kp T.law_ways_back.b .nil pass0 (pa_cons (pv 0) (pa_cons (pv 3) pa_nil))) pe_int (fun _ _ => rfl)) pe_int))
        (pss_one (ps_if (PW.pt (pw_or (pt_cmpR op_gt (pv 2) (pv 4) (nomark _)) (pw_or (pt_cmpR op_notIn_seq (pv 3) (pe_call (ok_lasting T) (hr.mono (by decide)) (by rfl) T.lasting.g T.lasting.F.kp T.lasting.b .nil pass0 (pa_cons (pv 0) (pa_cons (pv 4) pa_nil))) (by rfl)) (pw_or1 (pt_cmpR op_ne (pe_callB SkE.call_repr_int (by rfl) T.n_repr (by decide +kernel) (pa_cons (pe_call (ok_least_wires T) (hr.mono (by decide)) (by rfl) T.least_wires.g T.least_wires.F.kp T.least_wires.b .nil pass0 (pa_cons (pv 0) (pa_cons (pv 4) pa_nil))) pa_nil)) pe_str (nomark _))))))
          (pss_one (ps_ret pe_bl))
          pss_nil))))
      (pss_one (ps_ret pe_bl))))))), ?_⟩
    refine ⟨_, rfl, v, b, rfl, hb, fb, fun d H1 hd e1 => ⟨_, rfl, v, b, rfl, hb.ext0 e1, ok, fun o H2 hw e2 => ⟨_, _, rfl, ?_⟩⟩⟩
    have kl : ∀ n ∈ knotsM b, n < b.length := fun n hn => (mem_filt.mp hn).1
    have kn : (knotsM b).length ≤ 8 := Nat.le_trans (List.length_filter_le _ _) (by rw [List.length_range]; exact h8)
    have sh : ShowOk (.tuple ((iN (knotsM b)).map PyData.int)) := show_nats (fun n hn => Nat.lt_of_lt_of_le (kl n hn) h8) kn
    have ek : (knotsM b).map nV = (iN (knotsM b)).map V.int := map_nV_int _
    have hag : decide (oN o = V.non) = decide (iN (knotsM b) = []) := by
      by_cases hk : knotsM b = []
      · rw [from_none fb hk hw, decide_eq_true (iN_nil.mpr hk)]
        exact decide_eq_true rfl
      · obtain ⟨s0, hs0⟩ := List.exists_mem_of_ne_nil _ hk
        obtain ⟨W, rfl, _⟩ := from_knot ok hw hs0
        rw [decide_eq_false (fun z => hk (iN_nil.mp z)), decide_eq_false (fun z => by cases z)]
    have e12 := e1.trans e2
    have hd2 := e2.at hd (by simp)
    refine ⟨_, rfl, v, b, rfl, hb.ext0 e12, ok, fun t H3 ht e3 => ?_⟩
    rw [ek] at ht
    refine ⟨t, _, rfl, .tup ht (dp_ints _), sh.a, sh.b, sh.c, sh.d, ?_⟩
    have hd3 := e3.at hd2 (by simp)
    refine ⟨_, rfl, d, _, rfl, .of hd3, fun t2 H4 ht2 hH4 => ?_⟩
    obtain ⟨oo, _, rfl⟩ := hH4
    have e4 := (e12.trans e3).put2 (o := .frz oo (.tup ((knotsM b).map nV))) ht2
    have hd4 : upd H3 t2 (.frz oo (.tup ((knotsM b).map nV))) d = _ := (upd_ne (ne_of_none hd3 ht2)).trans hd3
    refine ⟨t2, _, rfl, .tup (.inl (.inr ⟨oo, by rw [upd_same, ek]⟩)) (dp_ints _), sh.a, sh.b, sh.c, sh.d, ?_⟩
    generalize upd H3 t2 (.frz oo (.tup ((knotsM b).map nV))) = H4 at *
    refine ⟨rfl, _, rfl, ?_⟩
    have nof : (!decide (V.str (PyData.shown (.tuple ((iN (knotsM b)).map PyData.int))) = V.str (PyData.shown (.tuple ((iN (knotsM b)).map PyData.int))))) = false := by rw [decide_eq_true rfl]; rfl
    rw [nof]
    refine iteF ?_
    -- (told is None) != (due == [])
    refine ⟨_, rfl, rfl, _, rfl, Nat.zero_le _, fun z1 hz1 => ?_⟩
    have e5 := e4.put2 (o := .lst []) hz1
    have hd5 : upd H4 z1 (.lst []) d = _ := (upd_ne (ne_of_none hd4 hz1)).trans hd4
    rw [ek] at hd5
    refine ⟨_, _, .lst (.of hd5) (dp_ints _), .lst (.of upd_same) .nil, shaped_ints _, by decide, rfl, _, rfl, ?_⟩
    rw [eqv_nil]
    have nof2 : (!decide (V.bl (decide (oN o = V.non)) = V.bl (decide (iN (knotsM b) = [])))) = false := by rw [hag, decide_eq_true rfl]; rfl
    show (if (!decide (V.bl (decide (oN o = V.non)) = V.bl (decide (iN (knotsM b) = [])))) = true then _ else _)
    rw [nof2]
    refine iteF ?_
    generalize upd H4 z1 (.lst []) = H5 at *
    -- if due == []
    refine ⟨_, rfl, Nat.zero_le _, fun z2 hz2 => ?_⟩
    have e6 := e5.put2 (o := .lst []) hz2
    have hd6 : upd H5 z2 (.lst []) d = _ := (upd_ne (ne_of_none hd5 hz2)).trans hd5
    refine ⟨_, _, .lst (.of hd6) (dp_ints _), .lst (.of upd_same) .nil, shaped_ints _, by decide, _, rfl, ?_⟩
    rw [eqv_nil]
    generalize upd H5 z2 (.lst []) = H6 at *
    refine ite2 (fun z => ?_) (fun z => ?_)
    · have hk : knotsM b = [] := iN_nil.mp (of_decide_eq_true z)
      refine ⟨_, rfl, v, b, 9, rfl, hb.ext0 e6, ok, by decide, fun res fin H7 hL e7 => ⟨(by show 3 ≤ sizeLine; decide), fun z3 hz3 => ?_⟩⟩
      have e8 := (e6.trans e7).put2 (o := .lst [.int 0, .int 1, .int 2]) hz3
      refine ⟨z3, _, rfl, .inl (.of upd_same), rfl, by rfl, ?_⟩
      have le2 := least_two (no_knots fb hk hL)
      have hin : inV (V.int (leastM b res : Nat)) [.int 0, .int 1, .int 2] = true := by
        have : leastM b res = 0 ∨ leastM b res = 1 ∨ leastM b res = 2 := by omega
        rcases this with h | h | h <;> rw [h] <;> rfl
      rw [hin]
      refine ⟨true, rfl, iteT ?_⟩
      refine ⟨_, rfl, v, b, 9, rfl, hb.ext0 e8, ok, by decide, fun res2 fin2 t9 H9 hL2 ht9 e9 => ⟨Nat.zero_le _, fun z4 hz4 => ?_⟩⟩
      have hl := no_knots fb hk hL2
      rw [hl] at ht9
      have e10 := (e8.trans e9).put2 (o := .tup []) hz4
      have x9 : Ext [] H9 (upd H9 z4 (.tup [])) := .new hz4
      refine ⟨.tuple [], .tuple [], .tup (x9.tup Lsts.nil ht9) .nil, .tup (.of upd_same) .nil, by decide, by decide, ?_⟩
      exact q _ e10
    · have hk : knotsM b ≠ [] := fun h => z (decide_eq_true (iN_nil.mpr h))
      obtain ⟨s0, hs0⟩ := List.exists_mem_of_ne_nil _ hk
      obtain ⟨W, rfl, w2, w9⟩ := from_knot ok hw hs0
      refine ⟨_, rfl, (W : Int), rfl, true, rfl, iteF ?_⟩
      refine ⟨_, rfl, _, _, rfl, rfl, _, rfl, ?_⟩
      rw [decide_eq_true (show (2 : Int) ≤ (W : Int) by omega)]
      refine iteT ⟨_, _, rfl, rfl, _, rfl, ?_⟩
      show (if (!decide ((W : Int) ≤ 9)) = true then _ else _)
      rw [decide_eq_true (show (W : Int) ≤ 9 by omega)]
      refine iteF ?_
      -- for state in due
      refine ⟨_, rfl, d, rfl, ⟨_, .of hd6⟩, ?_⟩
      rw [← ek] at hd6
      refine for_list (K := K) (a := d) (xs := (knotsM b).map nV) (fun i σ H' => ∃ y3 y4 : Option V, σ = [some v, some (.ref d), some (nV W), y3, y4] ∧ Ext [] H6 H') ⟨_, _, rfl, .refl⟩ (fun i σ H' _ ⟨_, _, _, e⟩ => .of (e.at hd6 (by simp))) ?_ ?_
      · rintro i x σ H7 hx ⟨y3, y4, rfl, e7⟩
        obtain ⟨s, hs, rfl⟩ := map_at hx
        have hsk := List.mem_of_getElem? hs
        have f7 := e6.trans e7
        refine ⟨_, rfl, _, rfl, v, b, s, rfl, hb.ext0 f7, fb, kl s hsk, fun ms t8 H8 hp hr ht8 e8 => ?_⟩
        obtain ⟨m, hm, m1, m2, two⟩ := knot_win fb hsk hp hr
        have f8 := f7.trans e8
        refine ⟨t8, _, 1, _, rfl, rfl, .of ht8, atI_nat (j := 1) (at_map hm), _, _, rfl, rfl, ?_⟩
        have em : ((m : Int)) + 1 = ((m + 1 : Nat) : Int) := by omega
        show _
        simp only [em]
        have hb8 := hb.ext0 f8
        -- told > window
        obtain ⟨res0, fin0, hL0⟩ := rk_ex b (m + 1) _ 0 (forksM b) (List.replicate b.length none) (Nat.le_refl _)
        have hW : W ≤ m + 1 := from_le hw (by omega) hL0 (knot_three ok hsk two hL0).2
        refine ⟨_, rfl, _, rfl, _, _, rfl, rfl, _, rfl, ?_⟩
        rw [decide_eq_false (show ¬ (((m + 1 : Nat) : Int) < (W : Int)) by omega)]
        refine iteF ?_
        -- state not in lasting(book, window)
        refine ⟨_, rfl, _, rfl, _, rfl, v, b, m + 1, rfl, hb8, ok, by omega, fun res fin t9 H9 hL ht9 e9 => ?_⟩
        refine ⟨t9, _, rfl, .inr ht9, rfl, flat_nV _, _, rfl, ?_⟩
        have hin : inV (nV s) ((lastL b res).map nV) = true := by rw [inV_nV]; exact decide_eq_true (knot_three ok hsk two hL).1
        show (if (!inV (nV s) ((lastL b res).map nV)) = true then _ else _)
        rw [hin]
        refine iteF ?_
        -- repr(least_wires(book, window)) != '3'
        refine ⟨_, rfl, _, rfl, v, b, m + 1, rfl, hb8.ext0 e9, ok, by omega, fun res2 fin2 H10 hL2 e10 => ?_⟩
        rw [(knot_three ok hsk two hL2).2]
        refine ⟨_, rfl, by decide +kernel, rfl, _, rfl, ?_⟩
        have n3 : (!decide (V.str (Str.ofString (toString ((3 : Nat) : Int))) = V.str (Str.ofString "3"))) = false := by
          rw [show (toString ((3 : Nat) : Int)) = "3" by decide +kernel, decide_eq_true rfl]
          rfl
        rw [n3]
        exact iteF ⟨_, _, rfl, ((e7.trans e8).trans e9).trans e10⟩
      · rintro σ H7 ⟨y3, y4, rfl, e7⟩
        exact q _ (e6.trans e7)
/-! ### the law -/
def spLaw (K : PySem.W.Frag) : Sp := fun vs H Q _ => ∃ (a : Addr) (ns : List Int), vs = [.ref a] ∧ SqL K H a (ns.map V.int) ∧ ns.length ≤ 63 ∧ ∀ H', Q (.bl true) H'
theorem sc_law : FnScope ["script", "pool", "is_great", "book"] ["script"] (defScope s_law) := ⟨rfl, rfl, rfl, by decide +kernel, rfl, by decide +kernel, by decide +kernel⟩
theorem ok_law (T : Tx K mg) : FnG P w K mg base CX0 9 T.law.f T.law.fd ["script"] (spLaw K) := by
  refine FunG.ok T.law.F sc_law (fun vs H Q E h => ?_) (fun cdv A outer s H vs Q E hG hr h => ?_)
  · obtain ⟨a, ns, rfl, _⟩ := h; rfl
  · obtain ⟨a, ns, rfl, hs, hn, q⟩ := h
    refine ⟨_, (pss_cons (ps_set (i := 1) sc_law.nd rfl (.inl rfl) (pe_call (ok_law_pool T) (hr.mono (by decide)) (by rfl) T.law_pool.g T.law_pool.F.kp T.law_pool.b .nil pass0 (pa_cons (pv 0) pa_nil)))
      (pss_cons (ps_set (i := 2) sc_law.nd rfl (.inl rfl) (pe_cmpR op_gt (pe_ix ix_list (pv 1) pe_int (fun _ _ => rfl)) pe_int (nomark _)))
      (pss_cons (ps_for PassesOwn.never rfl (pi_list (pe_lst (pa_cons (pe_call (ok_law_book_drawn T) (hr.mono (by decide)) (by rfl) T.law_book_drawn.g T.law_book_drawn.F.kp T.law_book_drawn.b .nil pass0 (pa_cons (pv 1) (pa_cons (pe_mid (pe_ifExp (pt_val (pv 2)) pe_int pe_int)) (pa_cons (pe_mid (pe_ifExp (pt_val (pv 2)) pe_int pe_int)) pa_nil)))) (pa_cons (pe_call (ok_law_ringed T) (hr.mono (by decide)) (by rfl) T.law_ringed.g T.law_ringed.F.kp T.law_ringed.b .nil pass0 (pa_cons (pv 1) pa_nil)) (pa_cons (pe_call (ok_law_ringed T) (hr.mono (by decide)) (by rfl) T.law_ringed.g T.law_ringed.F.kp T.law_ringed.b .nil pass0 (pa_cons (pv 1) pa_nil)) pa_nil))))) (pg_name (i := 3) sc_law.nd rfl (.inl rfl))
        (pss_one (ps_if (pt_not (pt_val (pe_callG (ok_law_right T) hG (hr.mono (by decide)) (by rfl) T.law_right.g T.law_right.F.kp T.law_right.b .nil pass0 (pa_cons (pv 3) pa_nil))))
          (pss_one (ps_ret pe_bl))
          pss_nil)))
      (pss_one (ps_ret pe_bl))))), ?_⟩
    refine ⟨_, rfl, a, ns, rfl, hs, hn, fun p l H1 hp hl P1 e1 => ?_⟩
    have P1' := P1
    obtain ⟨npl, x, y, ls, hp1, hl1, x0, _⟩ := P1'
    refine ⟨_, rfl, p, _, 0, _, rfl, rfl, .of hp1, atI_nat (j := 0) rfl, _, _, rfl, rfl, ?_⟩
    refine ⟨_, rfl, fun v H' => H' = H1 ∧ ∃ S : Nat, v = .int S ∧ 1 ≤ S ∧ S ≤ 8, ⟨_, rfl, _, rfl, ite2 (fun _ => ⟨rfl, 8, rfl, by decide, by decide⟩) (fun _ => ⟨rfl, 4, rfl, by decide, by decide⟩)⟩, ?_⟩
    rintro v H' ⟨rfl, S, rfl, S1, S8⟩
    refine ⟨fun v H2 => H2 = H' ∧ ∃ M : Nat, v = .int M ∧ M ≤ 5, ⟨_, rfl, _, rfl, ite2 (fun _ => ⟨rfl, 5, rfl, by decide⟩) (fun _ => ⟨rfl, 3, rfl, by decide⟩)⟩, ?_⟩
    rintro v H2 ⟨rfl, M, rfl, M5⟩
    refine ⟨p, l, S, M, rfl, P1, S1, S8, M5, fun b0 v0 H3 ok0 _ _ hb0 P3 e3 => ?_⟩
    refine ⟨_, rfl, p, l, rfl, P3, fun b1 v1 H4 ok1 hb1 P4 e4 => ?_⟩
    refine ⟨_, rfl, p, l, rfl, P4, fun b2 v2 H5 ok2 hb2 P5 e5 => ?_⟩
    refine ⟨(by show 3 ≤ sizeLine; decide), fun t ht => ⟨t, rfl, ⟨_, .of upd_same⟩, ?_⟩⟩
    have k0 : BkV K (upd H5 t (.lst [v0, v1, v2])) v0 b0 := ((hb0.ext e4 P3.lsts).ext e5 P4.lsts).ext0 (.new ht)
    have k1 : BkV K (upd H5 t (.lst [v0, v1, v2])) v1 b1 := (hb1.ext e5 P4.lsts).ext0 (.new ht)
    have k2 : BkV K (upd H5 t (.lst [v0, v1, v2])) v2 b2 := hb2.ext0 (.new ht)
    have hT : upd H5 t (.lst [v0, v1, v2]) t = some (.lst [v0, v1, v2]) := upd_same
    generalize upd H5 t (.lst [v0, v1, v2]) = H6 at *
    refine for_list (K := K) (a := t) (xs := [v0, v1, v2]) (fun i σ H' => ∃ y1 y2 y3 : Option V, σ = [some (.ref a), y1, y2, y3] ∧ Ext [] H6 H') ⟨_, _, _, rfl, .refl⟩ (fun i σ H' _ ⟨_, _, _, _, e⟩ => .of (e.at hT (by simp))) ?_ ?_
    · rintro i v σ H7 hx ⟨y1, y2, y3, rfl, e7⟩
      have hb : ∃ b, BkV K H6 v b ∧ OkB b := by
        rcases List.mem_cons.mp (List.mem_of_getElem? hx) with h | h
        · exact ⟨b0, by rw [h]; exact k0, ok0⟩
        · rcases List.mem_cons.mp h with h | h
          · exact ⟨b1, by rw [h]; exact k1, ok1⟩
          · exact ⟨b2, by rw [List.mem_singleton.mp h]; exact k2, ok2⟩
      obtain ⟨b, hb, ok⟩ := hb
      refine ⟨_, rfl, v, b, rfl, hb.ext0 e7, ok, fun H8 e8 => ⟨true, rfl, iteF ⟨_, _, _, rfl, e7.trans e8⟩⟩⟩
    · rintro σ H7 _
      exact q H7
end
end Nv
namespace Nv
open PySem PySem.Spec PyProof.Rows L2
section
variable {K : PySem.W.Frag} {mg : Str → Option Value} {h : Heap}
def mkDef {name : Str} {st : Stmt} {ps : List Str} {f : Addr} {oc : Value} {od an : Option Addr} {osl : Array (Option Value)} {kV doc pm cdv ct : Value} (X : K.In h) (G : h.Ns mainGlobals mg)
    (a : PySem.W.nsIn K mainGlobals name = some (some (.ref f))) (l : K.lookup f = some ⟨oc, od, .func (PySem.W.fnOf name name (defArgs st) (defBody st) (defScope st) .none kV doc pm an cdv ct), osl⟩)
    (c : PySem.W.codeIn K cdv name = true) (k : PySem.W.keepIn K (.ref f) = true)
    (b : ∀ (kV doc pm : Value) (an : Option Addr) (cdv ct : Value) (us : List Value), us.length = ps.length → bindArgs (PySem.W.fnOf name name (defArgs st) (defBody st) (defScope st) .none kV doc pm an cdv ct) ⟨us, []⟩ = pure (ps.zip us)) : DefAt K mg name st ps :=
  ⟨f, _, fun_mk l c k, PySem.W.mg_of X G a, b kV doc pm an cdv ct⟩
def mkDefD {name : Str} {st : Stmt} {ps : List Str} {v : V} {u : Value} (r : RelV v u) {f dT : Addr} {oc doc1 : Value} {od an dod : Option Addr} {osl dsl : Array (Option Value)} {dn : Nat} {kV doc pm cdv ct : Value} (X : K.In h) (G : h.Ns mainGlobals mg)
    (a : PySem.W.nsIn K mainGlobals name = some (some (.ref f))) (l : K.lookup f = some ⟨oc, od, .func (PySem.W.fnOf name name (defArgs st) (defBody st) (defScope st) (.ref dT) kV doc pm an cdv ct), osl⟩)
    (c : PySem.W.codeIn K cdv name = true) (k : PySem.W.keepIn K (.ref f) = true) (d : K.lookup dT = some ⟨doc1, dod, .seq #[u] dn, dsl⟩) (n : Nat) (hn : n + 1 = ps.length)
    (b : ∀ (T : Addr) (kV doc pm : Value) (an : Option Addr) (cdv ct : Value) (us its : List Value), us.length = n → its.length = 1 →
      ∃ k, bindArgs (PySem.W.fnOf name name (defArgs st) (defBody st) (defScope st) (.ref T) kV doc pm an cdv ct) ⟨us, []⟩ = seqItems? (.ref T) >>= k ∧ k (some its.toArray) = pure (ps.zip (us ++ its.drop 0)))
    (b1 : ∀ (T : Addr) (kV doc pm : Value) (an : Option Addr) (cdv ct : Value) (us its : List Value), us.length = n + 1 → its.length = 1 →
      ∃ k, bindArgs (PySem.W.fnOf name name (defArgs st) (defBody st) (defScope st) (.ref T) kV doc pm an cdv ct) ⟨us, []⟩ = seqItems? (.ref T) >>= k ∧ k (some its.toArray) = pure (ps.zip (us ++ its.drop 1))) : DefAtD K mg name st ps [v] := by
  have F : FunD K name name (defArgs st) (defBody st) (defScope st) [v] [] f _ := ⟨⟨oc, od, .ref dT, kV, doc, pm, an, cdv, ct, osl, rfl, l, c, .inr ⟨by nofun, dT, _, [u], dn, rfl, d, rfl, .cons r .nil⟩, .inl rfl⟩, k⟩
  refine ⟨f, _, ⟨F⟩, PySem.W.mg_of X G a, ?_, F.binds1 n 0 (by nofun) (by simpa using hn) b⟩
  obtain ⟨ds, hv, hb⟩ := F.binds1 (n + 1) 1 (by nofun) (by simpa using hn) b1
  cases hv
  exact hb
end

set_option maxHeartbeats 0 in
theorem all_mk {l : PySem.W.OpenLaw} {w : World} {K : PySem.W.Frag} {h : Heap} {mg : Str → Option Value} {fa : Addr} (X : K.In h) (G : h.Ns mainGlobals mg) (hfa : mg "law" = some (.ref fa))
    {f0 : Addr} {oc0 kV0 dc0 pm0 cd0 ct0 : Value} {od0 an0 : Option Addr} {sl0 : Array (Option Value)}
    {f1 : Addr} {oc1 kV1 dc1 pm1 cd1 ct1 : Value} {od1 an1 : Option Addr} {sl1 : Array (Option Value)}
    {f2 : Addr} {oc2 kV2 dc2 pm2 cd2 ct2 : Value} {od2 an2 : Option Addr} {sl2 : Array (Option Value)}
    {f3 : Addr} {oc3 kV3 dc3 pm3 cd3 ct3 : Value} {od3 an3 : Option Addr} {sl3 : Array (Option Value)} {zT3 : Addr} {zc3 : Value} {zo3 : Option Addr} {zs3 : Array (Option Value)} {zn3 : Nat} {zk3 : Tok}
    {f4 : Addr} {oc4 kV4 dc4 pm4 cd4 ct4 : Value} {od4 an4 : Option Addr} {sl4 : Array (Option Value)}
    {f5 : Addr} {oc5 kV5 dc5 pm5 cd5 ct5 : Value} {od5 an5 : Option Addr} {sl5 : Array (Option Value)}
    {f6 : Addr} {oc6 kV6 dc6 pm6 cd6 ct6 : Value} {od6 an6 : Option Addr} {sl6 : Array (Option Value)}
    {f7 : Addr} {oc7 kV7 dc7 pm7 cd7 ct7 : Value} {od7 an7 : Option Addr} {sl7 : Array (Option Value)}
    {f8 : Addr} {oc8 kV8 dc8 pm8 cd8 ct8 : Value} {od8 an8 : Option Addr} {sl8 : Array (Option Value)}
    {f9 : Addr} {oc9 kV9 dc9 pm9 cd9 ct9 : Value} {od9 an9 : Option Addr} {sl9 : Array (Option Value)}
    {f10 : Addr} {oc10 kV10 dc10 pm10 cd10 ct10 : Value} {od10 an10 : Option Addr} {sl10 : Array (Option Value)}
    {f11 : Addr} {oc11 kV11 dc11 pm11 cd11 ct11 : Value} {od11 an11 : Option Addr} {sl11 : Array (Option Value)}
    {f12 : Addr} {oc12 kV12 dc12 pm12 cd12 ct12 : Value} {od12 an12 : Option Addr} {sl12 : Array (Option Value)}
    {f13 : Addr} {oc13 kV13 dc13 pm13 cd13 ct13 : Value} {od13 an13 : Option Addr} {sl13 : Array (Option Value)}
    {f14 : Addr} {oc14 kV14 dc14 pm14 cd14 ct14 : Value} {od14 an14 : Option Addr} {sl14 : Array (Option Value)}
    {f15 : Addr} {oc15 kV15 dc15 pm15 cd15 ct15 : Value} {od15 an15 : Option Addr} {sl15 : Array (Option Value)}
    {f16 : Addr} {oc16 kV16 dc16 pm16 cd16 ct16 : Value} {od16 an16 : Option Addr} {sl16 : Array (Option Value)}
    {f17 : Addr} {oc17 kV17 dc17 pm17 cd17 ct17 : Value} {od17 an17 : Option Addr} {sl17 : Array (Option Value)}
    {f18 : Addr} {oc18 kV18 dc18 pm18 cd18 ct18 : Value} {od18 an18 : Option Addr} {sl18 : Array (Option Value)}
    {f19 : Addr} {oc19 kV19 dc19 pm19 cd19 ct19 : Value} {od19 an19 : Option Addr} {sl19 : Array (Option Value)}
    {f20 : Addr} {oc20 kV20 dc20 pm20 cd20 ct20 : Value} {od20 an20 : Option Addr} {sl20 : Array (Option Value)}
    {f21 : Addr} {oc21 kV21 dc21 pm21 cd21 ct21 : Value} {od21 an21 : Option Addr} {sl21 : Array (Option Value)}
    {f22 : Addr} {oc22 kV22 dc22 pm22 cd22 ct22 : Value} {od22 an22 : Option Addr} {sl22 : Array (Option Value)}
    {f23 : Addr} {oc23 kV23 dc23 pm23 cd23 ct23 : Value} {od23 an23 : Option Addr} {sl23 : Array (Option Value)}
    {f24 : Addr} {oc24 kV24 dc24 pm24 cd24 ct24 : Value} {od24 an24 : Option Addr} {sl24 : Array (Option Value)}
    {f25 : Addr} {oc25 kV25 dc25 pm25 cd25 ct25 : Value} {od25 an25 : Option Addr} {sl25 : Array (Option Value)}
    {f26 : Addr} {oc26 kV26 dc26 pm26 cd26 ct26 : Value} {od26 an26 : Option Addr} {sl26 : Array (Option Value)}
    {f27 : Addr} {oc27 kV27 dc27 pm27 cd27 ct27 : Value} {od27 an27 : Option Addr} {sl27 : Array (Option Value)}
    {f28 : Addr} {oc28 kV28 dc28 pm28 cd28 ct28 : Value} {od28 an28 : Option Addr} {sl28 : Array (Option Value)}
    {f29 : Addr} {oc29 kV29 dc29 pm29 cd29 ct29 : Value} {od29 an29 : Option Addr} {sl29 : Array (Option Value)}
    {f30 : Addr} {oc30 kV30 dc30 pm30 cd30 ct30 : Value} {od30 an30 : Option Addr} {sl30 : Array (Option Value)}
    {f31 : Addr} {oc31 kV31 dc31 pm31 cd31 ct31 : Value} {od31 an31 : Option Addr} {sl31 : Array (Option Value)}
    {f32 : Addr} {oc32 kV32 dc32 pm32 cd32 ct32 : Value} {od32 an32 : Option Addr} {sl32 : Array (Option Value)}
    {f33 : Addr} {oc33 kV33 dc33 pm33 cd33 ct33 : Value} {od33 an33 : Option Addr} {sl33 : Array (Option Value)}
    {f34 : Addr} {oc34 kV34 dc34 pm34 cd34 ct34 : Value} {od34 an34 : Option Addr} {sl34 : Array (Option Value)}
    {f35 : Addr} {oc35 kV35 dc35 pm35 cd35 ct35 : Value} {od35 an35 : Option Addr} {sl35 : Array (Option Value)}
    {f36 : Addr} {oc36 kV36 dc36 pm36 cd36 ct36 : Value} {od36 an36 : Option Addr} {sl36 : Array (Option Value)}
    {f37 : Addr} {oc37 kV37 dc37 pm37 cd37 ct37 : Value} {od37 an37 : Option Addr} {sl37 : Array (Option Value)}
    {f38 : Addr} {oc38 kV38 dc38 pm38 cd38 ct38 : Value} {od38 an38 : Option Addr} {sl38 : Array (Option Value)}
    {t0 : Tok}
    {t1 : Tok}
    {t2 : Tok}
    {t3 : Tok}
    (a0 : PySem.W.nsIn K mainGlobals "whole" = some (some (.ref f0))) (l0 : K.lookup f0 = some ⟨oc0, od0, .func (PySem.W.fnOf "whole" "whole" (defArgs s_whole) (defBody s_whole) (defScope s_whole) .none kV0 dc0 pm0 an0 cd0 ct0), sl0⟩) (c0 : PySem.W.codeIn K cd0 "whole" = true) (k0 : PySem.W.keepIn K (.ref f0) = true)
    (a1 : PySem.W.nsIn K mainGlobals "whole_within" = some (some (.ref f1))) (l1 : K.lookup f1 = some ⟨oc1, od1, .func (PySem.W.fnOf "whole_within" "whole_within" (defArgs s_whole_within) (defBody s_whole_within) (defScope s_whole_within) .none kV1 dc1 pm1 an1 cd1 ct1), sl1⟩) (c1 : PySem.W.codeIn K cd1 "whole_within" = true) (k1 : PySem.W.keepIn K (.ref f1) = true)
    (a2 : PySem.W.nsIn K mainGlobals "tuple_within" = some (some (.ref f2))) (l2 : K.lookup f2 = some ⟨oc2, od2, .func (PySem.W.fnOf "tuple_within" "tuple_within" (defArgs s_tuple_within) (defBody s_tuple_within) (defScope s_tuple_within) .none kV2 dc2 pm2 an2 cd2 ct2), sl2⟩) (c2 : PySem.W.codeIn K cd2 "tuple_within" = true) (k2 : PySem.W.keepIn K (.ref f2) = true)
    (a3 : PySem.W.nsIn K mainGlobals "first_rows" = some (some (.ref f3))) (l3 : K.lookup f3 = some ⟨oc3, od3, .func (PySem.W.fnOf "first_rows" "first_rows" (defArgs s_first_rows) (defBody s_first_rows) (defScope s_first_rows) (.ref zT3) kV3 dc3 pm3 an3 cd3 ct3), sl3⟩) (c3 : PySem.W.codeIn K cd3 "first_rows" = true) (k3 : PySem.W.keepIn K (.ref f3) = true)
    (df3 : K.lookup zT3 = some ⟨zc3, zo3, .seq #[.int 0 zk3] zn3, zs3⟩)
    (a4 : PySem.W.nsIn K mainGlobals "made_book" = some (some (.ref f4))) (l4 : K.lookup f4 = some ⟨oc4, od4, .func (PySem.W.fnOf "made_book" "made_book" (defArgs s_made_book) (defBody s_made_book) (defScope s_made_book) .none kV4 dc4 pm4 an4 cd4 ct4), sl4⟩) (c4 : PySem.W.codeIn K cd4 "made_book" = true) (k4 : PySem.W.keepIn K (.ref f4) = true)
    (a5 : PySem.W.nsIn K mainGlobals "check_form" = some (some (.ref f5))) (l5 : K.lookup f5 = some ⟨oc5, od5, .func (PySem.W.fnOf "check_form" "check_form" (defArgs s_check_form) (defBody s_check_form) (defScope s_check_form) .none kV5 dc5 pm5 an5 cd5 ct5), sl5⟩) (c5 : PySem.W.codeIn K cd5 "check_form" = true) (k5 : PySem.W.keepIn K (.ref f5) = true)
    (a6 : PySem.W.nsIn K mainGlobals "has_state_form" = some (some (.ref f6))) (l6 : K.lookup f6 = some ⟨oc6, od6, .func (PySem.W.fnOf "has_state_form" "has_state_form" (defArgs s_has_state_form) (defBody s_has_state_form) (defScope s_has_state_form) .none kV6 dc6 pm6 an6 cd6 ct6), sl6⟩) (c6 : PySem.W.codeIn K cd6 "has_state_form" = true) (k6 : PySem.W.keepIn K (.ref f6) = true)
    (a7 : PySem.W.nsIn K mainGlobals "fork_states" = some (some (.ref f7))) (l7 : K.lookup f7 = some ⟨oc7, od7, .func (PySem.W.fnOf "fork_states" "fork_states" (defArgs s_fork_states) (defBody s_fork_states) (defScope s_fork_states) .none kV7 dc7 pm7 an7 cd7 ct7), sl7⟩) (c7 : PySem.W.codeIn K cd7 "fork_states" = true) (k7 : PySem.W.keepIn K (.ref f7) = true)
    (a8 : PySem.W.nsIn K mainGlobals "led_to" = some (some (.ref f8))) (l8 : K.lookup f8 = some ⟨oc8, od8, .func (PySem.W.fnOf "led_to" "led_to" (defArgs s_led_to) (defBody s_led_to) (defScope s_led_to) .none kV8 dc8 pm8 an8 cd8 ct8), sl8⟩) (c8 : PySem.W.codeIn K cd8 "led_to" = true) (k8 : PySem.W.keepIn K (.ref f8) = true)
    (a9 : PySem.W.nsIn K mainGlobals "reach" = some (some (.ref f9))) (l9 : K.lookup f9 = some ⟨oc9, od9, .func (PySem.W.fnOf "reach" "reach" (defArgs s_reach) (defBody s_reach) (defScope s_reach) .none kV9 dc9 pm9 an9 cd9 ct9), sl9⟩) (c9 : PySem.W.codeIn K cd9 "reach" = true) (k9 : PySem.W.keepIn K (.ref f9) = true)
    (a10 : PySem.W.nsIn K mainGlobals "knots" = some (some (.ref f10))) (l10 : K.lookup f10 = some ⟨oc10, od10, .func (PySem.W.fnOf "knots" "knots" (defArgs s_knots) (defBody s_knots) (defScope s_knots) .none kV10 dc10 pm10 an10 cd10 ct10), sl10⟩) (c10 : PySem.W.codeIn K cd10 "knots" = true) (k10 : PySem.W.keepIn K (.ref f10) = true)
    (a11 : PySem.W.nsIn K mainGlobals "ways_back" = some (some (.ref f11))) (l11 : K.lookup f11 = some ⟨oc11, od11, .func (PySem.W.fnOf "ways_back" "ways_back" (defArgs s_ways_back) (defBody s_ways_back) (defScope s_ways_back) .none kV11 dc11 pm11 an11 cd11 ct11), sl11⟩) (c11 : PySem.W.codeIn K cd11 "ways_back" = true) (k11 : PySem.W.keepIn K (.ref f11) = true)
    (a12 : PySem.W.nsIn K mainGlobals "ring_states" = some (some (.ref f12))) (l12 : K.lookup f12 = some ⟨oc12, od12, .func (PySem.W.fnOf "ring_states" "ring_states" (defArgs s_ring_states) (defBody s_ring_states) (defScope s_ring_states) .none kV12 dc12 pm12 an12 cd12 ct12), sl12⟩) (c12 : PySem.W.codeIn K cd12 "ring_states" = true) (k12 : PySem.W.keepIn K (.ref f12) = true)
    (a13 : PySem.W.nsIn K mainGlobals "forks_on_rings" = some (some (.ref f13))) (l13 : K.lookup f13 = some ⟨oc13, od13, .func (PySem.W.fnOf "forks_on_rings" "forks_on_rings" (defArgs s_forks_on_rings) (defBody s_forks_on_rings) (defScope s_forks_on_rings) .none kV13 dc13 pm13 an13 cd13 ct13), sl13⟩) (c13 : PySem.W.codeIn K cd13 "forks_on_rings" = true) (k13 : PySem.W.keepIn K (.ref f13) = true)
    (a14 : PySem.W.nsIn K mainGlobals "made_window" = some (some (.ref f14))) (l14 : K.lookup f14 = some ⟨oc14, od14, .func (PySem.W.fnOf "made_window" "made_window" (defArgs s_made_window) (defBody s_made_window) (defScope s_made_window) .none kV14 dc14 pm14 an14 cd14 ct14), sl14⟩) (c14 : PySem.W.codeIn K cd14 "made_window" = true) (k14 : PySem.W.keepIn K (.ref f14) = true)
    (a15 : PySem.W.nsIn K mainGlobals "check_number" = some (some (.ref f15))) (l15 : K.lookup f15 = some ⟨oc15, od15, .func (PySem.W.fnOf "check_number" "check_number" (defArgs s_check_number) (defBody s_check_number) (defScope s_check_number) .none kV15 dc15 pm15 an15 cd15 ct15), sl15⟩) (c15 : PySem.W.codeIn K cd15 "check_number" = true) (k15 : PySem.W.keepIn K (.ref f15) = true)
    (a16 : PySem.W.nsIn K mainGlobals "lasting" = some (some (.ref f16))) (l16 : K.lookup f16 = some ⟨oc16, od16, .func (PySem.W.fnOf "lasting" "lasting" (defArgs s_lasting) (defBody s_lasting) (defScope s_lasting) .none kV16 dc16 pm16 an16 cd16 ct16), sl16⟩) (c16 : PySem.W.codeIn K cd16 "lasting" = true) (k16 : PySem.W.keepIn K (.ref f16) = true)
    (a17 : PySem.W.nsIn K mainGlobals "leading_to" = some (some (.ref f17))) (l17 : K.lookup f17 = some ⟨oc17, od17, .func (PySem.W.fnOf "leading_to" "leading_to" (defArgs s_leading_to) (defBody s_leading_to) (defScope s_leading_to) .none kV17 dc17 pm17 an17 cd17 ct17), sl17⟩) (c17 : PySem.W.codeIn K cd17 "leading_to" = true) (k17 : PySem.W.keepIn K (.ref f17) = true)
    (a18 : PySem.W.nsIn K mainGlobals "ranks_for" = some (some (.ref f18))) (l18 : K.lookup f18 = some ⟨oc18, od18, .func (PySem.W.fnOf "ranks_for" "ranks_for" (defArgs s_ranks_for) (defBody s_ranks_for) (defScope s_ranks_for) .none kV18 dc18 pm18 an18 cd18 ct18), sl18⟩) (c18 : PySem.W.codeIn K cd18 "ranks_for" = true) (k18 : PySem.W.keepIn K (.ref f18) = true)
    (a19 : PySem.W.nsIn K mainGlobals "lasting_for" = some (some (.ref f19))) (l19 : K.lookup f19 = some ⟨oc19, od19, .func (PySem.W.fnOf "lasting_for" "lasting_for" (defArgs s_lasting_for) (defBody s_lasting_for) (defScope s_lasting_for) .none kV19 dc19 pm19 an19 cd19 ct19), sl19⟩) (c19 : PySem.W.codeIn K cd19 "lasting_for" = true) (k19 : PySem.W.keepIn K (.ref f19) = true)
    (a20 : PySem.W.nsIn K mainGlobals "least_wires" = some (some (.ref f20))) (l20 : K.lookup f20 = some ⟨oc20, od20, .func (PySem.W.fnOf "least_wires" "least_wires" (defArgs s_least_wires) (defBody s_least_wires) (defScope s_least_wires) .none kV20 dc20 pm20 an20 cd20 ct20), sl20⟩) (c20 : PySem.W.codeIn K cd20 "least_wires" = true) (k20 : PySem.W.keepIn K (.ref f20) = true)
    (a21 : PySem.W.nsIn K mainGlobals "from_window" = some (some (.ref f21))) (l21 : K.lookup f21 = some ⟨oc21, od21, .func (PySem.W.fnOf "from_window" "from_window" (defArgs s_from_window) (defBody s_from_window) (defScope s_from_window) .none kV21 dc21 pm21 an21 cd21 ct21), sl21⟩) (c21 : PySem.W.codeIn K cd21 "from_window" = true) (k21 : PySem.W.keepIn K (.ref f21) = true)
    (a22 : PySem.W.nsIn K mainGlobals "least_for" = some (some (.ref f22))) (l22 : K.lookup f22 = some ⟨oc22, od22, .func (PySem.W.fnOf "least_for" "least_for" (defArgs s_least_for) (defBody s_least_for) (defScope s_least_for) .none kV22 dc22 pm22 an22 cd22 ct22), sl22⟩) (c22 : PySem.W.codeIn K cd22 "least_for" = true) (k22 : PySem.W.keepIn K (.ref f22) = true)
    (a23 : PySem.W.nsIn K mainGlobals "least_free" = some (some (.ref f23))) (l23 : K.lookup f23 = some ⟨oc23, od23, .func (PySem.W.fnOf "least_free" "least_free" (defArgs s_least_free) (defBody s_least_free) (defScope s_least_free) .none kV23 dc23 pm23 an23 cd23 ct23), sl23⟩) (c23 : PySem.W.codeIn K cd23 "least_free" = true) (k23 : PySem.W.keepIn K (.ref f23) = true)
    (a24 : PySem.W.nsIn K mainGlobals "ray_counts" = some (some (.ref f24))) (l24 : K.lookup f24 = some ⟨oc24, od24, .func (PySem.W.fnOf "ray_counts" "ray_counts" (defArgs s_ray_counts) (defBody s_ray_counts) (defScope s_ray_counts) .none kV24 dc24 pm24 an24 cd24 ct24), sl24⟩) (c24 : PySem.W.codeIn K cd24 "ray_counts" = true) (k24 : PySem.W.keepIn K (.ref f24) = true)
    (a25 : PySem.W.nsIn K mainGlobals "_law_pool" = some (some (.ref f25))) (l25 : K.lookup f25 = some ⟨oc25, od25, .func (PySem.W.fnOf "_law_pool" "_law_pool" (defArgs s_law_pool) (defBody s_law_pool) (defScope s_law_pool) .none kV25 dc25 pm25 an25 cd25 ct25), sl25⟩) (c25 : PySem.W.codeIn K cd25 "_law_pool" = true) (k25 : PySem.W.keepIn K (.ref f25) = true)
    (a26 : PySem.W.nsIn K mainGlobals "_law_draw" = some (some (.ref f26))) (l26 : K.lookup f26 = some ⟨oc26, od26, .func (PySem.W.fnOf "_law_draw" "_law_draw" (defArgs s_law_draw) (defBody s_law_draw) (defScope s_law_draw) .none kV26 dc26 pm26 an26 cd26 ct26), sl26⟩) (c26 : PySem.W.codeIn K cd26 "_law_draw" = true) (k26 : PySem.W.keepIn K (.ref f26) = true)
    (a27 : PySem.W.nsIn K mainGlobals "_law_pick" = some (some (.ref f27))) (l27 : K.lookup f27 = some ⟨oc27, od27, .func (PySem.W.fnOf "_law_pick" "_law_pick" (defArgs s_law_pick) (defBody s_law_pick) (defScope s_law_pick) .none kV27 dc27 pm27 an27 cd27 ct27), sl27⟩) (c27 : PySem.W.codeIn K cd27 "_law_pick" = true) (k27 : PySem.W.keepIn K (.ref f27) = true)
    (a28 : PySem.W.nsIn K mainGlobals "_law_is_whole" = some (some (.ref f28))) (l28 : K.lookup f28 = some ⟨oc28, od28, .func (PySem.W.fnOf "_law_is_whole" "_law_is_whole" (defArgs s_law_is_whole) (defBody s_law_is_whole) (defScope s_law_is_whole) .none kV28 dc28 pm28 an28 cd28 ct28), sl28⟩) (c28 : PySem.W.codeIn K cd28 "_law_is_whole" = true) (k28 : PySem.W.keepIn K (.ref f28) = true)
    (a29 : PySem.W.nsIn K mainGlobals "_law_book_meeting" = some (some (.ref f29))) (l29 : K.lookup f29 = some ⟨oc29, od29, .func (PySem.W.fnOf "_law_book_meeting" "_law_book_meeting" (defArgs s_law_book_meeting) (defBody s_law_book_meeting) (defScope s_law_book_meeting) .none kV29 dc29 pm29 an29 cd29 ct29), sl29⟩) (c29 : PySem.W.codeIn K cd29 "_law_book_meeting" = true) (k29 : PySem.W.keepIn K (.ref f29) = true)
    (a30 : PySem.W.nsIn K mainGlobals "_law_book_messages" = some (some (.ref f30))) (l30 : K.lookup f30 = some ⟨oc30, od30, .func (PySem.W.fnOf "_law_book_messages" "_law_book_messages" (defArgs s_law_book_messages) (defBody s_law_book_messages) (defScope s_law_book_messages) .none kV30 dc30 pm30 an30 cd30 ct30), sl30⟩) (c30 : PySem.W.codeIn K cd30 "_law_book_messages" = true) (k30 : PySem.W.keepIn K (.ref f30) = true)
    (a31 : PySem.W.nsIn K mainGlobals "_law_book_drawn" = some (some (.ref f31))) (l31 : K.lookup f31 = some ⟨oc31, od31, .func (PySem.W.fnOf "_law_book_drawn" "_law_book_drawn" (defArgs s_law_book_drawn) (defBody s_law_book_drawn) (defScope s_law_book_drawn) .none kV31 dc31 pm31 an31 cd31 ct31), sl31⟩) (c31 : PySem.W.codeIn K cd31 "_law_book_drawn" = true) (k31 : PySem.W.keepIn K (.ref f31) = true)
    (a32 : PySem.W.nsIn K mainGlobals "_law_win_ends" = some (some (.ref f32))) (l32 : K.lookup f32 = some ⟨oc32, od32, .func (PySem.W.fnOf "_law_win_ends" "_law_win_ends" (defArgs s_law_win_ends) (defBody s_law_win_ends) (defScope s_law_win_ends) .none kV32 dc32 pm32 an32 cd32 ct32), sl32⟩) (c32 : PySem.W.codeIn K cd32 "_law_win_ends" = true) (k32 : PySem.W.keepIn K (.ref f32) = true)
    (a33 : PySem.W.nsIn K mainGlobals "_law_win_back" = some (some (.ref f33))) (l33 : K.lookup f33 = some ⟨oc33, od33, .func (PySem.W.fnOf "_law_win_back" "_law_win_back" (defArgs s_law_win_back) (defBody s_law_win_back) (defScope s_law_win_back) .none kV33 dc33 pm33 an33 cd33 ct33), sl33⟩) (c33 : PySem.W.codeIn K cd33 "_law_win_back" = true) (k33 : PySem.W.keepIn K (.ref f33) = true)
    (a34 : PySem.W.nsIn K mainGlobals "_law_win_knots" = some (some (.ref f34))) (l34 : K.lookup f34 = some ⟨oc34, od34, .func (PySem.W.fnOf "_law_win_knots" "_law_win_knots" (defArgs s_law_win_knots) (defBody s_law_win_knots) (defScope s_law_win_knots) .none kV34 dc34 pm34 an34 cd34 ct34), sl34⟩) (c34 : PySem.W.codeIn K cd34 "_law_win_knots" = true) (k34 : PySem.W.keepIn K (.ref f34) = true)
    (a35 : PySem.W.nsIn K mainGlobals "_law_ways_back" = some (some (.ref f35))) (l35 : K.lookup f35 = some ⟨oc35, od35, .func (PySem.W.fnOf "_law_ways_back" "_law_ways_back" (defArgs s_law_ways_back) (defBody s_law_ways_back) (defScope s_law_ways_back) .none kV35 dc35 pm35 an35 cd35 ct35), sl35⟩) (c35 : PySem.W.codeIn K cd35 "_law_ways_back" = true) (k35 : PySem.W.keepIn K (.ref f35) = true)
    (a36 : PySem.W.nsIn K mainGlobals "_law_ringed" = some (some (.ref f36))) (l36 : K.lookup f36 = some ⟨oc36, od36, .func (PySem.W.fnOf "_law_ringed" "_law_ringed" (defArgs s_law_ringed) (defBody s_law_ringed) (defScope s_law_ringed) .none kV36 dc36 pm36 an36 cd36 ct36), sl36⟩) (c36 : PySem.W.codeIn K cd36 "_law_ringed" = true) (k36 : PySem.W.keepIn K (.ref f36) = true)
    (a37 : PySem.W.nsIn K mainGlobals "_law_right" = some (some (.ref f37))) (l37 : K.lookup f37 = some ⟨oc37, od37, .func (PySem.W.fnOf "_law_right" "_law_right" (defArgs s_law_right) (defBody s_law_right) (defScope s_law_right) .none kV37 dc37 pm37 an37 cd37 ct37), sl37⟩) (c37 : PySem.W.codeIn K cd37 "_law_right" = true) (k37 : PySem.W.keepIn K (.ref f37) = true)
    (a38 : PySem.W.nsIn K mainGlobals "law" = some (some (.ref f38))) (l38 : K.lookup f38 = some ⟨oc38, od38, .func (PySem.W.fnOf "law" "law" (defArgs s_law) (defBody s_law) (defScope s_law) .none kV38 dc38 pm38 an38 cd38 ct38), sl38⟩) (c38 : PySem.W.codeIn K cd38 "law" = true) (k38 : PySem.W.keepIn K (.ref f38) = true)
    (z0 : PySem.W.nsIn K mainGlobals "isinstance" = some none)
    (z1 : PySem.W.nsIn K mainGlobals "int" = some none)
    (z2 : PySem.W.nsIn K mainGlobals "bool" = some none)
    (z3 : PySem.W.nsIn K mainGlobals "tuple" = some none)
    (z4 : PySem.W.nsIn K mainGlobals "len" = some none)
    (z5 : PySem.W.nsIn K mainGlobals "range" = some none)
    (z6 : PySem.W.nsIn K mainGlobals "dict" = some none)
    (z7 : PySem.W.nsIn K mainGlobals "min" = some none)
    (z8 : PySem.W.nsIn K mainGlobals "sorted" = some none)
    (z9 : PySem.W.nsIn K mainGlobals "set" = some none)
    (z10 : PySem.W.nsIn K mainGlobals "any" = some none)
    (z11 : PySem.W.nsIn K mainGlobals "list" = some none)
    (z12 : PySem.W.nsIn K mainGlobals "sum" = some none)
    (z13 : PySem.W.nsIn K mainGlobals "max" = some none)
    (z14 : PySem.W.nsIn K mainGlobals "enumerate" = some none)
    (z15 : PySem.W.nsIn K mainGlobals "repr" = some none)
    (y0 : PySem.W.nsIn K mainGlobals "MOST_STATES" = some (some (.int 8 t0)))
    (y1 : PySem.W.nsIn K mainGlobals "MOST_MESSAGES" = some (some (.int 5 t1)))
    (y2 : PySem.W.nsIn K mainGlobals "GREATEST_MESSAGE" = some (some (.int 99 t2)))
    (y3 : PySem.W.nsIn K mainGlobals "LAST_WINDOW" = some (some (.int 9 t3)))
    : ∃ fd : FuncData, (∀ (s : Shared) (v : Value), BindsTo s fd ⟨[v], []⟩ [("script", v)]) ∧ ∀ base : Heap, K.In base → base.Ns mainGlobals mg → FnG l.prog w K mg base CX0 9 fa fd ["script"] (spLaw K) := by
  have T : Tx K mg := {
    whole := mkDef X G a0 l0 c0 k0 fun _ _ _ _ _ _ us hl => match us, hl with | [_], _ => rfl
    whole_within := mkDef X G a1 l1 c1 k1 fun _ _ _ _ _ _ us hl => match us, hl with | [_, _, _], _ => rfl
    tuple_within := mkDef X G a2 l2 c2 k2 fun _ _ _ _ _ _ us hl => match us, hl with | [_, _, _], _ => rfl
    first_rows := mkDefD ⟨zk3, rfl⟩ X G a3 l3 c3 k3 df3 1 rfl (fun _ _ _ _ _ _ _ us its h1 h2 => match us, its, h1, h2 with | [_], [_], _, _ => ⟨_, rfl, rfl⟩) (fun _ _ _ _ _ _ _ us its h1 h2 => match us, its, h1, h2 with | [_, _], [_], _, _ => ⟨_, rfl, rfl⟩)
    made_book := mkDef X G a4 l4 c4 k4 fun _ _ _ _ _ _ us hl => match us, hl with | [_], _ => rfl
    check_form := mkDef X G a5 l5 c5 k5 fun _ _ _ _ _ _ us hl => match us, hl with | [_], _ => rfl
    has_state_form := mkDef X G a6 l6 c6 k6 fun _ _ _ _ _ _ us hl => match us, hl with | [_, _], _ => rfl
    fork_states := mkDef X G a7 l7 c7 k7 fun _ _ _ _ _ _ us hl => match us, hl with | [_], _ => rfl
    led_to := mkDef X G a8 l8 c8 k8 fun _ _ _ _ _ _ us hl => match us, hl with | [_, _, _, _], _ => rfl
    reach := mkDef X G a9 l9 c9 k9 fun _ _ _ _ _ _ us hl => match us, hl with | [_, _, _], _ => rfl
    knots := mkDef X G a10 l10 c10 k10 fun _ _ _ _ _ _ us hl => match us, hl with | [_], _ => rfl
    ways_back := mkDef X G a11 l11 c11 k11 fun _ _ _ _ _ _ us hl => match us, hl with | [_, _], _ => rfl
    ring_states := mkDef X G a12 l12 c12 k12 fun _ _ _ _ _ _ us hl => match us, hl with | [_], _ => rfl
    forks_on_rings := mkDef X G a13 l13 c13 k13 fun _ _ _ _ _ _ us hl => match us, hl with | [_], _ => rfl
    made_window := mkDef X G a14 l14 c14 k14 fun _ _ _ _ _ _ us hl => match us, hl with | [_], _ => rfl
    check_number := mkDef X G a15 l15 c15 k15 fun _ _ _ _ _ _ us hl => match us, hl with | [_], _ => rfl
    lasting := mkDef X G a16 l16 c16 k16 fun _ _ _ _ _ _ us hl => match us, hl with | [_, _], _ => rfl
    leading_to := mkDef X G a17 l17 c17 k17 fun _ _ _ _ _ _ us hl => match us, hl with | [_, _, _, _], _ => rfl
    ranks_for := mkDef X G a18 l18 c18 k18 fun _ _ _ _ _ _ us hl => match us, hl with | [_, _], _ => rfl
    lasting_for := mkDef X G a19 l19 c19 k19 fun _ _ _ _ _ _ us hl => match us, hl with | [_, _], _ => rfl
    least_wires := mkDef X G a20 l20 c20 k20 fun _ _ _ _ _ _ us hl => match us, hl with | [_, _], _ => rfl
    from_window := mkDef X G a21 l21 c21 k21 fun _ _ _ _ _ _ us hl => match us, hl with | [_], _ => rfl
    least_for := mkDef X G a22 l22 c22 k22 fun _ _ _ _ _ _ us hl => match us, hl with | [_, _], _ => rfl
    least_free := mkDef X G a23 l23 c23 k23 fun _ _ _ _ _ _ us hl => match us, hl with | [_], _ => rfl
    ray_counts := mkDef X G a24 l24 c24 k24 fun _ _ _ _ _ _ us hl => match us, hl with | [_], _ => rfl
    law_pool := mkDef X G a25 l25 c25 k25 fun _ _ _ _ _ _ us hl => match us, hl with | [_], _ => rfl
    law_draw := mkDef X G a26 l26 c26 k26 fun _ _ _ _ _ _ us hl => match us, hl with | [_, _], _ => rfl
    law_pick := mkDef X G a27 l27 c27 k27 fun _ _ _ _ _ _ us hl => match us, hl with | [_, _], _ => rfl
    law_is_whole := mkDef X G a28 l28 c28 k28 fun _ _ _ _ _ _ us hl => match us, hl with | [_], _ => rfl
    law_book_meeting := mkDef X G a29 l29 c29 k29 fun _ _ _ _ _ _ us hl => match us, hl with | [_], _ => rfl
    law_book_messages := mkDef X G a30 l30 c30 k30 fun _ _ _ _ _ _ us hl => match us, hl with | [_, _], _ => rfl
    law_book_drawn := mkDef X G a31 l31 c31 k31 fun _ _ _ _ _ _ us hl => match us, hl with | [_, _, _], _ => rfl
    law_win_ends := mkDef X G a32 l32 c32 k32 fun _ _ _ _ _ _ us hl => match us, hl with | [_, _, _], _ => rfl
    law_win_back := mkDef X G a33 l33 c33 k33 fun _ _ _ _ _ _ us hl => match us, hl with | [_], _ => rfl
    law_win_knots := mkDef X G a34 l34 c34 k34 fun _ _ _ _ _ _ us hl => match us, hl with | [_], _ => rfl
    law_ways_back := mkDef X G a35 l35 c35 k35 fun _ _ _ _ _ _ us hl => match us, hl with | [_, _], _ => rfl
    law_ringed := mkDef X G a36 l36 c36 k36 fun _ _ _ _ _ _ us hl => match us, hl with | [_], _ => rfl
    law_right := mkDef X G a37 l37 c37 k37 fun _ _ _ _ _ _ us hl => match us, hl with | [_], _ => rfl
    law := mkDef X G a38 l38 c38 k38 fun _ _ _ _ _ _ us hl => match us, hl with | [_], _ => rfl
    n_isinstance := PySem.W.mg_none_of X G z0
    n_int := PySem.W.mg_none_of X G z1
    n_bool := PySem.W.mg_none_of X G z2
    n_tuple := PySem.W.mg_none_of X G z3
    n_len := PySem.W.mg_none_of X G z4
    n_range := PySem.W.mg_none_of X G z5
    n_dict := PySem.W.mg_none_of X G z6
    n_min := PySem.W.mg_none_of X G z7
    n_sorted := PySem.W.mg_none_of X G z8
    n_set := PySem.W.mg_none_of X G z9
    n_any := PySem.W.mg_none_of X G z10
    n_list := PySem.W.mg_none_of X G z11
    n_sum := PySem.W.mg_none_of X G z12
    n_max := PySem.W.mg_none_of X G z13
    n_enumerate := PySem.W.mg_none_of X G z14
    n_repr := PySem.W.mg_none_of X G z15
    c_MOST_STATES := ⟨_, PySem.W.mg_of X G y0⟩
    c_MOST_MESSAGES := ⟨_, PySem.W.mg_of X G y1⟩
    c_GREATEST_MESSAGE := ⟨_, PySem.W.mg_of X G y2⟩
    c_LAST_WINDOW := ⟨_, PySem.W.mg_of X G y3⟩
  }
  have gl : T.law.f = fa := Value.ref.inj (Option.some.inj (T.law.g.symm.trans hfa))
  refine ⟨T.law.fd, fun s v => ?_, fun base _ _ => ?_⟩
  · exact (T.law.bind1 s v)
  · rw [← gl]; exact ok_law T
end Nv
open PySem PySem.W PyProof.Rows
set_option maxRecDepth 100000 in
set_option maxHeartbeats 0 in
theorem PySem.Challenge.cw_neverfour_k36_three_wires_and_knots_holds : PySem.Challenge.rw_neverfour_k36_three_wires_and_knots.Holds := by
  w_on; o_law; k_head; (case hw => w_witness2)
  k_fill
  refine Nv.endG (l := PySem.Challenge.rw_neverfour_k36_three_wires_and_knots) (n := 63) (k := 9) (x := "script") (sp := Nv.spLaw) rfl (by decide) rfl ⟨rfl, by decide, by decide⟩ (fun w h Y => PySem.W.kIn_of Y) ?F (fun _ _ a ns hl hS => ⟨a, ns, rfl, hS, hl, fun _ => rfl⟩)
  case F =>
    intro w mg fa h KX G hmg
    refine' Nv.all_mk KX G hmg ?a0 ?l0 ?c0 ?k0 ?a1 ?l1 ?c1 ?k1 ?a2 ?l2 ?c2 ?k2 ?a3 ?l3 ?c3 ?k3 ?df3 ?a4 ?l4 ?c4 ?k4 ?a5 ?l5 ?c5 ?k5 ?a6 ?l6 ?c6 ?k6 ?a7 ?l7 ?c7 ?k7 ?a8 ?l8 ?c8 ?k8 ?a9 ?l9 ?c9 ?k9 ?a10 ?l10 ?c10 ?k10 ?a11 ?l11 ?c11 ?k11 ?a12 ?l12 ?c12 ?k12 ?a13 ?l13 ?c13 ?k13 ?a14 ?l14 ?c14 ?k14 ?a15 ?l15 ?c15 ?k15 ?a16 ?l16 ?c16 ?k16 ?a17 ?l17 ?c17 ?k17 ?a18 ?l18 ?c18 ?k18 ?a19 ?l19 ?c19 ?k19 ?a20 ?l20 ?c20 ?k20 ?a21 ?l21 ?c21 ?k21 ?a22 ?l22 ?c22 ?k22 ?a23 ?l23 ?c23 ?k23 ?a24 ?l24 ?c24 ?k24 ?a25 ?l25 ?c25 ?k25 ?a26 ?l26 ?c26 ?k26 ?a27 ?l27 ?c27 ?k27 ?a28 ?l28 ?c28 ?k28 ?a29 ?l29 ?c29 ?k29 ?a30 ?l30 ?c30 ?k30 ?a31 ?l31 ?c31 ?k31 ?a32 ?l32 ?c32 ?k32 ?a33 ?l33 ?c33 ?k33 ?a34 ?l34 ?c34 ?k34 ?a35 ?l35 ?c35 ?k35 ?a36 ?l36 ?c36 ?k36 ?a37 ?l37 ?c37 ?k37 ?a38 ?l38 ?c38 ?k38 ?z0 ?z1 ?z2 ?z3 ?z4 ?z5 ?z6 ?z7 ?z8 ?z9 ?z10 ?z11 ?z12 ?z13 ?z14 ?z15 ?y0 ?y1 ?y2 ?y3
    (case a0 => k_is); (case l0 => k_is); (case c0 => k_is); (case k0 => k_is); (case a1 => k_is); (case l1 => k_is)
    (case c1 => k_is); (case k1 => k_is); (case a2 => k_is); (case l2 => k_is); (case c2 => k_is); (case k2 => k_is)
    (case a3 => k_is); (case l3 => k_is); (case c3 => k_is); (case k3 => k_is); (case df3 => k_is); (case a4 => k_is)
    (case l4 => k_is); (case c4 => k_is); (case k4 => k_is); (case a5 => k_is); (case l5 => k_is); (case c5 => k_is)
    (case k5 => k_is); (case a6 => k_is); (case l6 => k_is); (case c6 => k_is); (case k6 => k_is); (case a7 => k_is)
    (case l7 => k_is); (case c7 => k_is); (case k7 => k_is); (case a8 => k_is); (case l8 => k_is); (case c8 => k_is)
    (case k8 => k_is); (case a9 => k_is); (case l9 => k_is); (case c9 => k_is); (case k9 => k_is); (case a10 => k_is)
    (case l10 => k_is); (case c10 => k_is); (case k10 => k_is); (case a11 => k_is); (case l11 => k_is); (case c11 => k_is)
    (case k11 => k_is); (case a12 => k_is); (case l12 => k_is); (case c12 => k_is); (case k12 => k_is); (case a13 => k_is)
    (case l13 => k_is); (case c13 => k_is); (case k13 => k_is); (case a14 => k_is); (case l14 => k_is); (case c14 => k_is)
    (case k14 => k_is); (case a15 => k_is); (case l15 => k_is); (case c15 => k_is); (case k15 => k_is); (case a16 => k_is)
    (case l16 => k_is); (case c16 => k_is); (case k16 => k_is); (case a17 => k_is); (case l17 => k_is); (case c17 => k_is)
    (case k17 => k_is); (case a18 => k_is); (case l18 => k_is); (case c18 => k_is); (case k18 => k_is); (case a19 => k_is)
    (case l19 => k_is); (case c19 => k_is); (case k19 => k_is); (case a20 => k_is); (case l20 => k_is); (case c20 => k_is)
    (case k20 => k_is); (case a21 => k_is); (case l21 => k_is); (case c21 => k_is); (case k21 => k_is); (case a22 => k_is)
    (case l22 => k_is); (case c22 => k_is); (case k22 => k_is); (case a23 => k_is); (case l23 => k_is); (case c23 => k_is)
    (case k23 => k_is); (case a24 => k_is); (case l24 => k_is); (case c24 => k_is); (case k24 => k_is); (case a25 => k_is)
    (case l25 => k_is); (case c25 => k_is); (case k25 => k_is); (case a26 => k_is); (case l26 => k_is); (case c26 => k_is)
    (case k26 => k_is); (case a27 => k_is); (case l27 => k_is); (case c27 => k_is); (case k27 => k_is); (case a28 => k_is)
    (case l28 => k_is); (case c28 => k_is); (case k28 => k_is); (case a29 => k_is); (case l29 => k_is); (case c29 => k_is)
    (case k29 => k_is); (case a30 => k_is); (case l30 => k_is); (case c30 => k_is); (case k30 => k_is); (case a31 => k_is)
    (case l31 => k_is); (case c31 => k_is); (case k31 => k_is); (case a32 => k_is); (case l32 => k_is); (case c32 => k_is)
    (case k32 => k_is); (case a33 => k_is); (case l33 => k_is); (case c33 => k_is); (case k33 => k_is); (case a34 => k_is)
    (case l34 => k_is); (case c34 => k_is); (case k34 => k_is); (case a35 => k_is); (case l35 => k_is); (case c35 => k_is)
    (case k35 => k_is); (case a36 => k_is); (case l36 => k_is); (case c36 => k_is); (case k36 => k_is); (case a37 => k_is)
    (case l37 => k_is); (case c37 => k_is); (case k37 => k_is); (case a38 => k_is); (case l38 => k_is); (case c38 => k_is)
    (case k38 => k_is); (case z0 => k_is); (case z1 => k_is); (case z2 => k_is); (case z3 => k_is); (case z4 => k_is)
    (case z5 => k_is); (case z6 => k_is); (case z7 => k_is); (case z8 => k_is); (case z9 => k_is); (case z10 => k_is)
    (case z11 => k_is); (case z12 => k_is); (case z13 => k_is); (case z14 => k_is); (case z15 => k_is); (case y0 => k_is)
    (case y1 => k_is); (case y2 => k_is); (case y3 => k_is)
