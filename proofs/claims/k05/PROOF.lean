import PyProof.Rows.All
import Wide.All
import OpenK.AllK
import Wide.FinOn
import HandS.ForMost
import HandS.Strs
import HandS.SetFor
import PyProof.Rows.SetFrom
import HandS.IsInst
import HandS.RaiseMore
import PyProof.ReprRoads
import KE.KDictPairs
import HandS.TupAny
import HandS.Iter
import HandS.Walk
import KE.GoesEnum
import HandS.ForExc
import HandS.ExcOwn
import HandS.WordsExc
import HandS.ExcIs
import HandS.SlotsOwn
import KE.KTypeName
import HandS.ExcInit
import HandS.Style
import HandS.Flow
import HandS.Codes
import HandS.Conv
import HandS.Defaults
import PySem.Challenge.RW_neverfour_k05_least_books
import HandS.TupMul
import PyProof.ReprBulk
import PyProof.CallFns
import HandS.DictComp
import HandS.TryOnly
import KE.KeyNested
import PyProof.Rows.TupTab
import KE.KDictDisplayH
import HandS.Zip
import HandS.Deep
import HandS.TupSets
set_option Elab.async false
set_option linter.all false
set_option maxRecDepth 100000
namespace Nv
open PySem PySem.Spec PyProof.Rows L2
section
variable {P : Program} {w : World} {A : Around} {E : Value → Shared → Prop} {s : Shared}
/-- an empty set as set(..) begins it -/
abbrev noSet (w : World) : Obj := { cls := .type "set", dict := none, data := .set #[] 0 (.fresh 0 0 (!w.params.followText "set-order")) }

/-- set.__init__ of a list of ints -/
theorem fillSet {S l : Addr} {xs : Array Value} {ns : List Int} {Q : Value → Shared → Prop} (quiet : A.handled = none)
    (hS : s.heap.get? S = some (noSet w)) (hl : s.heap.IsList l xs) (hi : IntsAre xs.toList ns) (room : ns.length + 1 < scanBound)
    (k : ∀ (g : Heap) (t c : Nat), SetR w g S (fun j => decide (j ∈ ns)) c → c ≤ ns.length → (∀ b o, b ≠ S → s.heap.get? b = some o → g.get? b = some o) → Q .none { s with heap := g, toks := t }) :
    codeAny (model P w) A (.call (.builtin "set.__init__") ⟨[.ref S, .ref l], []⟩) (wants Q E) s := by
  have sz : xs.size = ns.length := by have q := IntsAre.length hi; rwa [Array.length_toList] at q
  refine codeAny_call_builtin F.called_set.init.plain F.entry_set_init (check_set_init_1 ⟨_, hS, rfl⟩ ?_)
  obtain ⟨⟨lc, ld, ldata, lsl⟩, hol, hcl, nl, hdl⟩ := hl
  simp only at hcl hdl
  subst hcl hdl
  have sub1 := F.sub_list_set
  have sub2 := F.sub_list_frozenset
  have nodict : (Value.type "list" == Value.type "dict") = false := by decide
  have lst : s.heap.IsList l xs := ⟨_, hol, rfl, nl, rfl⟩
  have lS : l ≠ S := fun e => by
    subst e
    exact absurd (congrArg Obj.cls (Option.some.inj (hol.symm.trans hS))) (show ¬ Value.type "list" = Value.type "set" by decide)
  unfold Builtin.«set.__init__» noKeywords Builtin.Frozenset.updateFrom
  generalize hPI : pyIter = PI
  wp_walk
  subst hPI
  refine wpAny_pyIter_list lst ?_
  refine wpAny_bind (wpAny_runValue ?_)
  have lt1 : l < s.heap.objs.size := Heap.lt_size hol
  have lt2 : S < s.heap.objs.size := Heap.lt_size hS
  have q3 : A.in1.in1.handled = none := by simp [quiet]
  have apart : S ∉ [s.heap.objs.size, l] := by
    intro z
    rcases List.mem_cons.mp z with e | z
    · exact absurd e (Nat.ne_of_lt lt2)
    · exact lS (List.mem_singleton.mp z).symm
  have each : ∀ (i : Nat) (v : Value), xs[i]? = some v → ∃ n t, ns[i]? = some n ∧ v = .int n t := fun i v hv => by
    have b : i < ns.length := by rw [← sz]; exact (Array.getElem?_eq_some_iff.mp hv).1
    obtain ⟨t, e⟩ := IntsAre.int_at hi i v (by rw [Array.getElem?_toList]; exact hv)
    refine ⟨ns[i], t, List.getElem?_eq_getElem b, ?_⟩
    rw [e, List.getD_eq_getElem?_getD, List.getElem?_eq_getElem b]
    rfl
  refine set_update_ints ((Walks.list q3 s.heap.objs.size l (Nat.ne_of_lt lt1) xs).toS) S apart ns sz room each (xs.size - 0) 0 _ (by omega) (Nat.zero_le _) ⟨⟨_, Heap.get?_push_size _ rfl, rfl, rfl⟩, lst.push _⟩ ?z ?r
  case z => exact ⟨0, Nat.le_refl 0, setR_new_at (Heap.get?_push_of_some _ hS)⟩
  case r =>
    intro s2 c mv hc R
    obtain ⟨g, g2, d2, t2, o2⟩ := s2
    have e1 : g2 = s.gens := mv.gens
    have e2 : d2 = s.drawn := mv.drawn
    have e3 : o2 = s.os := mv.os
    subst e1 e2 e3
    show wpAny _ _ _ _ _ _
    refine wpAny_pure ?_
    show wpAny _ _ (ret Value.none) _ _ _
    rw [sz] at hc
    refine wpAny_pure (k g t2 c R hc fun b o nb e => ?_)
    have hb : b < s.heap.objs.size := Heap.lt_size e
    refine mv.heap b o (fun z => ?_) (Heap.get?_push_of_some _ e)
    rcases List.mem_cons.mp z with z | z
    · exact nb z
    · exact absurd (List.mem_singleton.mp z) (Nat.ne_of_lt hb)
/-- set(l), l a list of ints -/
theorem setOf {l : Addr} {xs : Array Value} {ns : List Int} {Q : Value → Shared → Prop} (quiet : A.handled = none) (hl : s.heap.IsList l xs) (hi : IntsAre xs.toList ns) (room : ns.length + 1 < scanBound)
    (k : ∀ (g : Heap) (t c : Nat), SetR w g s.heap.objs.size (fun j => decide (j ∈ ns)) c → c ≤ ns.length → (∀ b o, s.heap.get? b = some o → g.get? b = some o) → Q (.ref s.heap.objs.size) { s with heap := g, toks := t }) :
    wpAny (model P w) A (call (.type "set") [.ref l]) Q E s := by
  obtain ⟨c0, tl, mro⟩ := F.called_set.mro
  have made := F.called_set.made
  have sub := F.called_set.sub
  refine wpAny_call (codeAny_of_tree ?_)
  show wpAny _ _ (callAny (.type "set") _) _ _ _
  refine wpAny_pure ⟨Code.quiet_builtin _ (by decide +kernel), codeAny_builtin F.entry_type_call ?_⟩
  rw [Around.under_plain (weight_type_call_type "set" [.ref l] []) rfl]
  have f1 := F.called_set.notType
  have f2 := F.called_set.canCreate
  have f3 := F.typeCall_set_1 (.ref l)
  repeat (any_goals (first | assumption | wp_step))
  refine codeAny_mono (code_set_led1 (w := w) (.ref l) (E := E) (Q₁ := fun v s1 => v = .ref s.heap.objs.size ∧ s1 = { s with heap := s.heap.push (noSet w) }) ⟨rfl, rfl⟩) fun r s1 hr => ?_
  rcases r with e | fl
  · exact hr
  · cases fl with
    | ret v =>
      obtain ⟨rfl, rfl⟩ := hr
      have at0 : (s.heap.push (noSet w)).get? s.heap.objs.size = some (noSet w) := Heap.get?_push_size _ rfl
      have ty : Shared.TypeIs { s with heap := s.heap.push (noSet w) } (.ref s.heap.objs.size) "set" := ⟨_, at0, rfl⟩
      have f4 := F.called_set.init.lookup
      have f5 := F.called_set.init.bind (.ref s.heap.objs.size)
      repeat (any_goals (first | assumption | wp_step))
      refine codeAny_mono (fillSet (E := E) (Q := fun v s2 => v = .none ∧ ∃ g t c, s2 = { s with heap := g, toks := t } ∧ SetR w g s.heap.objs.size (fun j => decide (j ∈ ns)) c ∧ c ≤ ns.length ∧ ∀ b o, s.heap.get? b = some o → g.get? b = some o)
        (by simp [quiet]) at0 (hl.push _) hi room fun g t c R hc kp => ⟨rfl, g, t, c, rfl, R, hc, fun b o e => kp b o (Nat.ne_of_lt (Heap.lt_size e)) (Heap.get?_push_of_some _ e)⟩) fun r2 s2 hr2 => ?_
      rcases r2 with e | fl2
      · exact hr2
      · cases fl2 with
        | ret v2 =>
          obtain ⟨rfl, g, t, c, rfl, R, hc, kp⟩ := hr2
          repeat (any_goals (first | assumption | wp_step))
          exact k g t c R hc kp
        | _ => exact hr2.elim
    | _ => exact hr.elim
end
/-- set(l): the new set -/
def rSetI (K : PySem.W.Frag) (w : World) : List V → Hp → VK → Prop := fun xs H Q => ∃ (l : Addr) (ns : List Int), xs = [.ref l] ∧ SqL K H l (ns.map V.int) ∧ ns.length ≤ 4000 ∧ ∀ (p : Addr) (c : Nat), H p = none → c ≤ ns.length → Q (.ref p) (upd H p (SetO w p (fun j => decide (j ∈ ns)) c))
theorem cr_setI {X : Cx} (hc : X.calm = true) : CallR X (.type "set") (rSetI X.K X.w) := by
  intro pins s σ H xs us Q I r h
  obtain ⟨l, ns, rfl, hq, hz, q⟩ := h
  obtain ⟨u, rfl, rx⟩ := vals1 r
  cases rx
  obtain ⟨its, rv, ⟨o, n, ho, hcl, hd, hdat⟩, _⟩ := I.list hq
  refine setOf (I.ok.hd hc) (show s.heap.IsList l its.toArray from ⟨o, ho, hcl, n, hdat⟩) (ints_of_vals rv) (by unfold scanBound; omega) fun g t c R hcn kp => ?_
  have new : H s.heap.objs.size = none := I.hok.fresh (Nat.le_refl _)
  exact ⟨.ref s.heap.objs.size, upd H s.heap.objs.size (SetO X.w s.heap.objs.size (fun j => decide (j ∈ ns)) c), I.laid (t' := t) kp (Nat.le_refl _) (setO_new R), rfl, q _ c new hcn⟩
end Nv
set_option Elab.async false
set_option linter.all false
set_option maxRecDepth 100000
namespace Nv
open PySem PySem.Spec PyProof.Rows L2
/-! ### tuples whose object is known to have no dict of its own -/
def TupZ (H : Hp) (a : Addr) (xs : List V) : Prop := ∃ o : Obj, H a = some (.frz o (.tup xs)) ∧ o.dict = none
theorem TupZ.sq {K : PySem.W.Frag} {H : Hp} {a : Addr} {xs : List V} (h : TupZ H a xs) : SqT K H a xs := by
  obtain ⟨o, e, _⟩ := h
  exact .inl (.inr ⟨o, e⟩)
def rTupZ (K : PySem.W.Frag) : List V → Hp → VK → Prop := fun xs H Q => ∃ (p : Addr) (ys : List V), xs = [.ref p] ∧ SqL K H p ys ∧ ∀ (l : Addr) (H' : Hp), H l = none → (∃ o : Obj, o.dict = none ∧ H' = upd H l (.frz o (.tup ys))) → Q (.ref l) H'
theorem call_tupZ {X : Cx} : CallR X (.type "tuple") (rTupZ X.K) := by
  intro pins s σ H xs us Q I r h
  obtain ⟨p, ys, rfl, hq, q⟩ := h
  obtain ⟨u, rfl, rx⟩ := vals1 r
  cases rx
  obtain ⟨its, rv, pl, hz⟩ := I.list hq
  have hlen := rv.length
  refine call_tuple_list pl.isList (fun g kp => ?_) (by simp only [List.size_toArray]; omega)
  have I1 : Inv X pins σ H { s with heap := g } := I.kept (t' := s.toks) kp
  have I2 : Inv X pins σ (upd H g.objs.size (.frz { cls := .type "tuple", data := .seq its.toArray } (.tup ys))) { s with heap := g.push { cls := .type "tuple", data := .seq its.toArray } } :=
    I1.laid (t' := s.toks) (fun b o e => Heap.get?_push_of_some _ e) (Nat.le_refl _) (show ObjOk X.prog X.w _ _ _ (.frz _ (.tup ys)) from ⟨Heap.get?_push_size _ rfl, hz, its, rv, IsTup.new _ _⟩)
  exact ⟨.ref g.objs.size, _, I2, rfl, q _ _ (I1.hok.fresh (Nat.le_refl _)) ⟨_, rfl, rfl⟩⟩

theorem pickL {α : Type} {n : Nat} {R : Nat → α → Prop} (h : ∀ j, j < n → ∃ x, R j x) : ∃ l : List α, l.length = n ∧ ∀ j x, l[j]? = some x → R j x := by
  induction n with
  | zero => exact ⟨[], rfl, fun j x e => by simp at e⟩
  | succ n ih =>
    obtain ⟨l, hl, hR⟩ := ih fun j hj => h j (Nat.lt_succ_of_lt hj)
    obtain ⟨x, hx⟩ := h n (Nat.lt_succ_self n)
    refine ⟨l ++ [x], by simp [hl], fun j y e => ?_⟩
    by_cases hj : j < n
    · rw [List.getElem?_append_left (by omega)] at e
      exact hR j y e
    · rw [List.getElem?_append_right (by omega)] at e
      have hj2 : j = n := by
        have := (List.getElem?_eq_some_iff.mp e).1
        simp at this
        omega
      subst hj2
      rw [hl, Nat.sub_self] at e
      cases e
      exact hx
/-! ### dict(t), t such a tuple of pairs -/
def rDictT (K : PySem.W.Frag) : List V → Hp → VK → Prop := fun xs H Q => ∃ (a : Addr) (ps : List Addr) (kvs : List (Key × V)), xs = [.ref a] ∧ TupZ H a (ps.map V.ref) ∧ Paired (fun p kv => SqT K H p [kV kv.1, kv.2]) ps kvs ∧
  ∀ p, H p = none → Q (.ref p) (upd H p (.dK (mergeK [] kvs)))
theorem call_dictT {X : Cx} (hc : X.calm = true) : CallR X (.type "dict") (rDictT X.K) := by
  intro pins s σ H xs us Q I r h
  obtain ⟨a, ps, kvs, rfl, ⟨o, ha, hd⟩, hp, q⟩ := h
  obtain ⟨u, rfl, rx⟩ := vals1 r
  cases rx
  have ok := I.hok a _ ha
  obtain ⟨hget, hz, its, rv, o2, ho2, hcl, n, hdat⟩ := ok
  have eo : o = o2 := Option.some.inj (hget.symm.trans ho2)
  subst eo
  have ei := refs_at rv
  subst ei
  rw [List.length_map] at hz
  obtain ⟨prs, rel, hl, hpr⟩ := pairs_of I hp
  -- the pairs as values
  obtain ⟨ws, wl, hw⟩ := pickL (n := prs.length) (R := fun j (x : Value × Value) => ∃ b kv, ps[j]? = some b ∧ prs[j]? = some kv ∧ kv.2 = x.2 ∧ IsTup s.heap b #[x.1, x.2] ∧ keyIs kv.1 x.1 = true) fun j hj => by
    obtain ⟨b, u, e1, e2, e3⟩ := hpr j prs[j] (List.getElem?_eq_getElem hj)
    exact ⟨(u, prs[j].2), b, prs[j], e1, List.getElem?_eq_getElem hj, rfl, e2, e3⟩
  have P := PairArg.tuple (prog := X.prog) (w := X.w) a (ps.map Value.ref).toArray (fun j => ps.getD j 0) ws
  refine PySem.call_dict_pairs (knd := mixKind X.prog X.w) (kvs := prs) P (I.ok.hd hc) ⟨⟨o, n, hget, hcl, hd, hdat⟩, by simp [wl, hl], fun j k v e => ?_⟩ ⟨by rw [wl], fun i key v e => ?_⟩ (by rw [wl, hl]; exact hz) fun g tk hd' kp => ?_
  · obtain ⟨b, kv, e1, e2, e3, e4, e5⟩ := hw j (k, v) e
    refine ⟨by simp [e1], ?_⟩
    show PairAt s.heap (ps.getD j 0) k v
    rw [List.getD_eq_getElem?_getD, e1]
    obtain ⟨ob, h1, h2, m, h3⟩ := e4
    exact .inl ⟨ob, h1, h2, m, h3⟩
  · obtain ⟨b, kv, e1, e2, e3, e4, e5⟩ := hw i (key, v) e
    obtain ⟨k0, v0⟩ := kv
    cases e3
    exact ⟨k0, e2, e5⟩
  · have kall : ∀ b o, s.heap.get? b = some o → g.get? b = some o := fun b o e => kp b o (by simp) e
    have hm : (s.heap.objs.size == sysModules) = false := beq_eq_false_iff_ne.mpr (Nat.ne_of_gt I.big)
    have hlen : (mergeK [] kvs).length ≤ sizeLine := by
      refine Nat.le_trans (length_mergeK kvs []) ?_
      rw [List.length_nil, Nat.zero_add, rel.length, hl]
      exact hz
    exact ⟨.ref s.heap.objs.size, upd H s.heap.objs.size (.dK (mergeK [] kvs)), I.laid (t' := tk) kall (Nat.le_refl _) (show ObjOk X.prog X.w _ _ _ (.dK (mergeK [] kvs)) from ⟨hlen, hm, merged [] prs, KV.merge rel .nil, hd'⟩), rfl, q _ (I.hok.fresh (Nat.le_refl _))⟩

/-! ### repr -/
theorem isDisp_of {K : PySem.W.Frag} {H : Hp} {a : Addr} {d : PyData} (h : Dp K H (.ref a) d) : (∃ ds, d = .list ds) ∨ ∃ ds, d = .tuple ds := by
  cases h with
  | lst _ _ => exact .inl ⟨_, rfl⟩
  | tup _ _ => exact .inr ⟨_, rfl⟩
/-- repr(x) of data at an address; nothing is being shown around -/
def rRepr (K : PySem.W.Frag) : List V → Hp → VK → Prop := fun xs H Q => ∃ (a : Addr) (d : PyData), xs = [.ref a] ∧ Dp K H (.ref a) d ∧ d.showable = true ∧ d.hasDict = false ∧ d.depth ≤ 60 ∧ d.shown.length ≤ sizeLine ∧ Q (.str d.shown) H
theorem call_reprD {X : Cx} (hu : X.A.units + 64 < cLine) (hg : X.A.guards = some []) : CallR X (.builtin "repr") (rRepr X.K) := by
  intro pins s σ H xs us Q I r h
  obtain ⟨a, d, rfl, hd, h1, h2, h3, h4, q⟩ := h
  obtain ⟨u, rfl, rx⟩ := vals1 r
  obtain ⟨as, rd⟩ := Dp.reads I d _ _ hd rx
  cases rx
  refine repr_of_reads' rd h1 (fun z => by rw [h2] at z; cases z) hg (by omega) (fun b o e => e) (fun g u tk kp => ?_) h4
  exact ⟨.str d.shown, H, I.kept (t' := tk) kp, ⟨u, rfl⟩, q⟩
end Nv
set_option Elab.async false
set_option linter.all false
set_option maxRecDepth 100000
namespace Nv
open PySem PySem.Spec PyProof.Rows L2
/-! ### defs that are called where nothing is being shown (repr looks at that) -/
structure FnG (P : Program) (w : World) (K : PySem.W.Frag) (mg : Str → Option Value) (base : Heap) (CX : CXT) (k : Nat) (f : Addr) (fd : FuncData) (ps : List Str) (sp : Sp) : Prop where
  len : ∀ vs H Q E, sp vs H Q E → vs.length = ps.length
  run : ∀ (A : Around) (outer : List Env) (s : Shared) (H : Hp) (args : Args) (us : List Value) (vs : List V) (Q : VK) (E : XK), A.guards = some [] → Room k A → Env0 P w K mg base A outer s H →
    BindsTo s fd args (ps.zip us) → Vals vs us → sp vs H Q E → codeAny (model P w) A (.call (.ref f) args) (CR CX outer P w H s Q E) s
section
variable {P : Program} {w : World} {K : PySem.W.Frag} {mg : Str → Option Value} {base : Heap} {CX : CXT}
theorem FnG.of {k : Nat} {f : Addr} {fd : FuncData} {ps : List Str} {sp : Sp} (F : FnOk P w K mg base CX k f fd ps sp) : FnG P w K mg base CX k f fd ps sp :=
  ⟨F.len, fun A outer s H args us vs Q E _ r e b v h => F.run A outer s H args us vs Q E r e b v h⟩
/-- a def by its body; in the body nothing is being shown -/
theorem fnG_of {k : Nat} {f : Addr} {name qual : Str} {params : Arguments} {body : List Stmt} {scope : Scope} {dV kV doc pm cdv ct oc : Value} {an od : Option Addr} {osl : Array (Option Value)} {N ps : List Str} {sp : Sp}
    (lk : K.lookup f = some ⟨oc, od, .func (PySem.W.fnOf name qual params body scope dV kV doc pm an cdv ct), osl⟩) (cd : PySem.W.codeIn K cdv qual = true) (S : FnScope N ps scope) (len : ∀ vs H Q E, sp vs H Q E → vs.length = ps.length)
    (walk : ∀ (A : Around) (outer : List Env) (s : Shared) (H : Hp) (vs : List V) (Q : VK) (E : XK), A.guards = some [] → Room k (A.deeper (envOfC qual scope s.heap.objs.size f cdv)) → sp vs H Q E →
      ∃ t, PSs (cxOf CX P w K mg base N qual scope f cdv A outer s H E) body t ∧ t { nx := fun _ H' => Q .non H', rt := Q } (start N vs) H) :
    FnG P w K mg base CX (k + 1) f (PySem.W.fnOf name qual params body scope dV kV doc pm an cdv ct) ps sp := by
  refine ⟨len, fun A outer s H args us vs Q E hg room e0 bind rel want => ?_⟩
  have here : ∀ b o, base.get? b = some o → s.heap.get? b = some o := fun b o e => (e0.bs b o e).1
  have KX : K.In s.heap := e0.mod.kin.keeps here
  have lim : s.heap.NoLimit := e0.mod.nolimit.keeps here
  refine codeAny_call_function room.depth (KX _ _ lk) rfl S.co S.gen rfl (PySem.W.codeRec_of KX cd) (bind _ _ _ _ ?_)
  refine wpAny_newFunctionEnv_cells S.kind (fun ⟨n, v⟩ hy => ?_) fun env he s1 x => ?_
  · rcases S.par n (List.of_mem_zip hy).1 with z | z
    · exact .inl z
    · exact .inr ⟨z, PySem.W.cellsFrom_some _ _ _ (.inl z)⟩
  · subst he
    refine ⟨lim.keeps x.toInCall.keep, codeAny_func ?_⟩
    obtain ⟨t, ht, hq⟩ := walk A outer s H vs Q E hg (room.deeper _) want
    refine wpAny_mono (ht.run [] s1 (start N vs) H _ (inv_start S room.hd e0 (len _ _ _ _ want) rel x) hq) (fun fl s' hs => ?_) fun e s' hs => hs
    cases fl with
    | ret u =>
      obtain ⟨v, σ', H', J, rv, q⟩ := hs
      exact ⟨v, H', J.os, J.bare, J.base, J.hok, rv, q⟩
    | next =>
      obtain ⟨σ', H', J, q⟩ := hs
      exact ⟨V.non, H', J.os, J.bare, J.base, J.hok, rfl, q⟩
    | brk => exact (hs.choose_spec.choose_spec.2 : False).elim
    | cont => exact (hs.choose_spec.choose_spec.2 : False).elim
theorem FunG.ok {x qual : Str} {st : Stmt} {f : Addr} {fd : FuncData} {N ps : List Str} {k : Nat} {sp : Sp} (F : Fun K x qual st f fd) (S : FnScope N ps (defScope st)) (len : ∀ vs H Q E, sp vs H Q E → vs.length = ps.length)
    (walk : ∀ (cdv : Value) (A : Around) (outer : List Env) (s : Shared) (H : Hp) (vs : List V) (Q : VK) (E : XK), A.guards = some [] → Room k (A.deeper (envOfC qual (defScope st) s.heap.objs.size f cdv)) → sp vs H Q E →
      ∃ t, PSs (cxOf CX0 P w K mg base N qual (defScope st) f cdv A outer s H E).nox (defBody st) t ∧ t { nx := fun _ H' => Q .non H', rt := Q } (start N vs) H) : FnG P w K mg base CX0 (k + 1) f fd ps sp := by
  obtain ⟨oc, od, kV, doc, pm, an, cdv, ct, osl, rfl, lk, cd⟩ := F.ex
  refine fnG_of lk cd S len fun A outer s H vs Q E hg hr want => ?_
  obtain ⟨t, h, q⟩ := walk cdv A outer s H vs Q E hg hr want
  exact ⟨t, h.nox, q⟩
end
section
variable {X : Cx} {CX : CXT} {k : Nat} {f : Addr} {fd : FuncData} {ps : List Str} {sp : Sp} {dvs : List V} {ds : List Value} {E : XK} {x : Str} {p pos : Pos} {e : Expr} {es : List Expr} {t : TA}
/-- a call of such a def where nothing is being shown -/
theorem pe_callG (F : FnG X.prog X.w X.K X.mg X.base CX k f fd ps sp) (hG : X.A.guards = some []) (hr : Room k X.A) (hg : Gl X x) (hm : X.mg x = some (.ref f)) (hk : PySem.W.keepIn X.K (.ref f) = true) (hb : Binds X.K fd ps ds) (hd : Vals dvs ds) (hx : Passes CX X E)
    (ha : PA X (e :: es) t) (hdb : (x == ("__debug__" : Str)) = false := by decide) (he : starEach (e :: es) X.env = (false, eval e X.env) :: starEach es X.env := by rfl) (hpl : (backTo pos (starEach es X.env)).any (·.1) = false := by rfl) :
    PE X (.Call (.Name x p) (e :: es) [] pos) (tCall sp dvs E t) := by
  refine ⟨fun pins s σ H Q I h => wpAny_Call_Name_kw (ld_glob I hg hm (PySem.W.callWith_K (h₀ := X.base) I.ok.mod.kin hk (thn (ha.run pos pins s σ H _ I h) fun us s1 ⟨vs, H1, I1, r, q⟩ => ⟨I1.kIn, ?_⟩) he hpl) hdb)⟩
  have r2 : Vals (vs ++ dvs) (us ++ ds) := r.append hd
  have hl : (us ++ ds).length = ps.length := by rw [← r2.length]; exact F.len _ _ _ _ q
  refine wpAny_call (codeAny_mono (F.run X.A X.stack s1 H1 ⟨us, []⟩ (us ++ ds) (vs ++ dvs) Q E hG hr I1.env0 (hb s1 us I1.kIn hl) r2 q) fun rr s' hq => ?_)
  rcases rr with ee | fl
  · exact hx pins σ H1 s1 ee s' I1 hq
  · cases fl with
    | ret u => exact I1.after hq
    | next => exact hq.elim
    | brk => exact hq.elim
    | cont => exact hq.elim
end
/-! ### the end: the law itself, such a def -/
theorem script_gone {P : Program} {w : World} {K : PySem.W.Frag} {h : Heap} {a : Addr} {xs : List Value} {ns : List Int} (KX : K.In h) (ha : h.get? a = some { cls := .type "list", data := .seq xs.toArray }) (hi : IntsAre xs ns) (hl : ns.length ≤ sizeLine) :
    ∃ H : Hp, Only H ∧ SqL K H a (ns.map V.int) ∧ HOk P w H h ∧ (∀ b u, H b = some u → b = a ∧ K.lookup a = none) := by
  have rv := vals_ints hi
  cases hk : K.lookup a with
  | some o =>
    obtain rfl := Option.some.inj ((KX a o hk).symm.trans ha)
    refine ⟨fun _ => none, fun _ => .inl rfl, .inr ⟨_, xs.toArray, _, hk, rfl, rfl, rfl, by rw [List.size_toArray, hi.length]; exact hl, by simpa using rv⟩, fun b u z => (by have z' : (none : Option HO) = some u := z; cases z'), fun b u z => (by have z' : (none : Option HO) = some u := z; cases z')⟩
  | none =>
    have on : ∀ b u, (if b = a then some (HO.frz { cls := .type "list", data := .seq xs.toArray } (.lst (ns.map V.int))) else none) = some u → b = a ∧ u = HO.frz { cls := .type "list", data := .seq xs.toArray } (.lst (ns.map V.int)) := fun b u z => by
      split at z
      · exact ⟨by assumption, (Option.some.inj z).symm⟩
      · cases z
    refine ⟨fun b => if b = a then some (.frz { cls := .type "list", data := .seq xs.toArray } (.lst (ns.map V.int))) else none, fun b => ?_, .inl (.inr ⟨_, if_pos rfl⟩), fun b u z => ?_, fun b u z => ⟨(on b u z).1, rfl⟩⟩
    · by_cases hb : b = a
      · exact .inr ⟨_, _, if_pos hb⟩
      · exact .inl (if_neg hb)
    · obtain ⟨rfl, rfl⟩ := on b u z
      exact ⟨ha, by rw [List.length_map]; exact hl, xs, _, rv, ha⟩
theorem endG {l : PySem.W.OpenLaw} {n k : Nat} {q : Program} {loose : List Str} {XP : (Str → Option Value) → Heap → Prop} {YP : World → Heap → Prop} {d : DefRec} {K : Params → PySem.W.Frag} {sp : PySem.W.Frag → Sp} {x : Str}
    (hn : l.most = some n) (hn2 : n ≤ sizeLine) (hdf : d.params.defaults = []) (hr : Room k callerA) (hY : ∀ (w : World) (h : Heap), YP w h → (K w.params).In h)
    (F : ∀ (w : World) (mg : Str → Option Value) (fa : Addr) (h : Heap), (K w.params).In h → h.Ns mainGlobals mg → mg d.name = some (.ref fa) →
      ∃ fd : FuncData, (∀ (s : Shared) (u : Value), BindsTo s fd ⟨[u], []⟩ [(x, u)]) ∧ ∀ base : Heap, (K w.params).In base → base.Ns mainGlobals mg → FnG l.prog w (K w.params) mg base CX0 k fa fd [x] (sp (K w.params)))
    (hsp : ∀ (K : PySem.W.Frag) (H : Hp) (a : Addr) (ns : List Int), ns.length ≤ n → SqL K H a (ns.map V.int) → sp K [.ref a] H (fun v _ => v = .bl true) fun _ _ _ => False) :
    PySem.W.WalkO q loose XP YP l.row.toRowW d [] (fun f vs => PySem.call f vs) := by
  refine Att.attach_call hn hdf fun w s₀ s1 mg mb fa o pm cd doc a vs ns G Y ho hd hcd hmg hobj hints hlen hg => ?_
  have KX := hY w _ Y
  obtain ⟨fd, hb, hF⟩ := F w mg fa _ KX G.T.g hmg
  have small : ns.length ≤ sizeLine := Nat.le_trans hlen hn2
  obtain ⟨H, only, seen, hok, dom⟩ := script_gone (P := l.prog) (w := w) KX hobj hints small
  -- the heap without the script
  have free : ∀ {b : Addr} {o : Obj}, s1.heap.get? b = some o → (∀ xs k, o.data ≠ .seq xs k) → H b = none := fun {b o} e ne => by
    cases q : H b with
    | none => rfl
    | some u =>
      obtain ⟨rfl, _⟩ := dom b u q
      rw [hobj] at e
      cases e
      exact (ne _ _ rfl).elim
  have ns : ∀ {b : Addr} {m : Str → Option Value}, s1.heap.Ns b m → (hidT s1.heap H).Ns b m := fun {b m} ⟨o, es, ep, e, dd, r⟩ => ⟨o, es, ep, hidT_get e (free e (by rw [dd]; intro _ _ z; cases z)), dd, r⟩
  have inK : (K w.params).In (hidT s1.heap H) := fun b o e => hidT_get (KX b o e) (by
    cases q : H b with
    | none => rfl
    | some u =>
      obtain ⟨rfl, z⟩ := dom b u q
      rw [z] at e
      cases e)
  have M : Mod (K w.params) mg (hidT s1.heap H) := ⟨inK, ns G.T.g, ⟨mb, ns G.T.b, G.T.builtins⟩, let ⟨mc, h1, h2⟩ := G.T.nolimit; ⟨mc, ns h1, h2⟩⟩
  have e0 : Env0 l.prog w (K w.params) mg (hidT s1.heap H) callerA [] s1 H := ⟨rfl, M, fun b o e => of_hidT e, Nat.le_of_eq (hidT_size _ _), trivial, fun b z => absurd (show b ∈ ([] : List Addr) from z) (by simp), hok, AllBare.of_eq hg⟩
  refine codeAny_mono ((hF _ inK (ns G.T.g)).run callerA [] s1 H ⟨[.ref a], []⟩ [.ref a] [.ref a] _ _ rfl hr e0 (hb s1 (.ref a)) (.cons rfl .nil) (hsp _ H a _ hlen seen)) fun r s' h => ?_
  rcases r with e | fl
  · exact (h : False).elim
  · cases fl with
    | next => exact (h : False).elim
    | brk => exact (h : False).elim
    | cont => exact (h : False).elim
    | ret u =>
      obtain ⟨v, H', os, bare, un, hok', rv, qv⟩ := h
      obtain rfl : v = .bl true := qv
      obtain rfl : u = Value.bool true := rv
      refine ⟨rfl, OldK.of_keep fun b o e => ?_, os, bare⟩
      cases z : H b with
      | none => exact un.keep b o e z (fun z => absurd (show b ∈ ([] : List Addr) from z) (by simp)) (by simp)
      | some u =>
        obtain ⟨ob, ys, z2⟩ : ∃ ob ys, H b = some (.frz ob (.lst ys)) := by
          rcases only b with z3 | z3
          · rw [z3] at z; cases z
          · exact z3
        obtain ⟨g1, _⟩ := hok b _ z2
        obtain ⟨g2, _⟩ := hok' b _ (un.frzs b ob _ z2)
        rw [e] at g1
        cases g1
        exact g2
end Nv
set_option Elab.async false
set_option linter.all false
set_option maxRecDepth 100000
namespace Nv
open PySem PySem.Spec PyProof.Rows L2
/-! ### the layer's rules with the written part named (within a comprehension's block) -/
section
variable {X : Cx} (K : PySem.W.Frag)
theorem ix_listK (h : X.K = K := by rfl) : IxR X (rIxL K) := by subst h; exact ix_list
theorem ix_tupK (h : X.K = K := by rfl) : IxR X (rIxT K) := by subst h; exact ix_tup
theorem op_in_seqK (h : X.K = K := by rfl) : OpR X (compareOp .In) (rIn K false) := by subst h; exact op_in_seq
theorem op_notIn_seqK (h : X.K = K := by rfl) : OpR X (compareOp .NotIn) (rIn K true) := by subst h; exact op_notIn_seq
def rLen (K : PySem.W.Frag) : List V → Hp → VK → Prop := fun xs H Q => ∃ p ys, xs = [.ref p] ∧ (SqL K H p ys ∨ SqT K H p ys) ∧ Q (.int ys.length) H
theorem call_len_seqK (h : X.K = K := by rfl) : CallR X (.builtin "len") (rLen K) := by subst h; exact call_len_seq
theorem mt_indexK (h : X.K = K := by rfl) : MtR X "list.index" (rIndex K) := by subst h; exact mt_index
theorem call_tupZK (h : X.K = K := by rfl) : CallR X (.type "tuple") (rTupZ K) := by subst h; exact call_tupZ
def rListOf (K : PySem.W.Frag) : List V → Hp → VK → Prop := fun xs H Q => ∃ p ys, xs = [.ref p] ∧ (SqL K H p ys ∨ SqT K H p ys) ∧ ∀ l, H l = none → Q (.ref l) (upd H l (.lst ys))
theorem call_list_ofK (h : X.K = K := by rfl) : CallR X (.type "list") (rListOf K) := by subst h; exact call_list_of
theorem call_dictTK (h : X.K = K := by rfl) (hc : X.calm = true := by rfl) : CallR X (.type "dict") (rDictT K) := by subst h; exact call_dictT hc
theorem cr_setIK (w : World) (h : X.K = K := by rfl) (h2 : X.w = w := by rfl) (hc : X.calm = true := by rfl) : CallR X (.type "set") (rSetI K w) := by subst h h2; exact cr_setI hc
theorem cr_sortedSetK (w : World) (h2 : X.w = w := by rfl) (hc : X.calm = true := by rfl) : CallR X (.builtin "sorted") (rSortedSet w) := by subst h2; exact cr_sortedSet hc
theorem cr_sortedK (h : X.K = K := by rfl) : CallR X (.builtin "sorted") (rSorted K) := by subst h; exact cr_sorted
theorem cr_anyK (h : X.K = K := by rfl) (hc : X.calm = true := by rfl) : CallR X (.builtin "any") (rAny K) := by subst h; exact cr_any hc
theorem cr_sumK (h : X.K = K := by rfl) (hc : X.calm = true := by rfl) : CallR X (.builtin "sum") (rSum K) := by subst h; exact cr_sum hc
theorem call_isiK' (h : X.K = K := by rfl) : CallR X (.builtin "isinstance") (rIsi K) := by subst h; exact call_isi
theorem op_eqDK (hu : X.A.units + 64 < cLine) (h : X.K = K := by rfl) : OpR X (compareOp .Eq) (rEqD K) := by subst h; exact op_eqD hu
theorem op_neDK (hu : X.A.units + 64 < cLine) (h : X.K = K := by rfl) : OpR X (compareOp .NotEq) (rNeD K) := by subst h; exact op_neD hu
theorem sl_listK (h : X.K = K := by rfl) : SlR X (rSlL K) := by subst h; exact sl_list
theorem call_reprDK (hu : X.A.units + 64 < cLine) (hg : X.A.guards = some []) (h : X.K = K := by rfl) : CallR X (.builtin "repr") (rRepr K) := by subst h; exact call_reprD hu hg
theorem pi_listK {tg l : Expr} {tl : TE} (hl : PE X l tl) (h : X.K = K := by rfl) : PI X tg l (iList K tl) := by subst h; exact pi_list hl
theorem pi_tupK {tg l : Expr} {tl : TE} (hl : PE X l tl) (h : X.K = K := by rfl) : PI X tg l (iTup K tl) := by subst h; exact pi_tup hl
theorem pg_tupK {es : List Expr} {k : Nat} {t : TGs} {n : Nat} {pos : Pos} (hc : X.calm = true) (hh : PGs X es t) (h : X.K = K := by rfl) (hn : (assignEach es X.env).length = n := by rfl) (hst : (assignEach es X.env).findIdx? (·.1) = none := by rfl) :
    PG X (.Tuple es k pos) (gTup K n t) := by subst h; exact pg_tup hc hh hn hst
theorem pe_bmK {T id : String} {name : Str} {o e : Expr} {es : List Expr} {to : TE} {t : TA} {r : V → List V → Hp → VK → Prop} {apos cpos : Pos} (pa : PlainAttrs T) (slot : Slot T name id) (hty : typeOf (.builtin id) = pure (.type "method_descriptor")) (hm : MtR X id r) (ho : PE X o to) (ha : PA X (e :: es) t)
    (h : X.K = K := by rfl) (hbase : attributeBase o name X.env (eval o X.env) = eval o X.env := by rfl)
    (hfew : ((backTo cpos (starEach (e :: es) X.env)).all (fun x => !x.1) && (backToKw cpos (keywordEach [] X.env)).all (fun x => x.1.isSome)
      && decide ((e :: es).length + ([] : List Keyword).length + (if ([] : List Keyword).isEmpty then 0 else 1) < 30)) = true := by rfl)
    (hline : (apos.endLine == cpos.line) = true := by rfl) (hs : starEach (e :: es) X.env = (false, eval e X.env) :: starEach es X.env := by rfl) (hplain : (backTo cpos (starEach es X.env)).any (·.1) = false := by rfl) :
    PE X (.Call (.Attribute o name apos) (e :: es) [] cpos) (tBM K T r to t) := by subst h; exact pe_bm pa slot hty hm ho ha hbase hfew hline hs hplain
end
end Nv
set_option Elab.async false
set_option linter.all false
set_option maxRecDepth 100000
namespace Nv
open PySem PySem.Spec PyProof.Rows L2
open AutoSeq1 (wpAny_loadPart')
/-! ### enumerate(t), t a tuple -/
abbrev tupIt (t : Addr) : Obj := { cls := .type "tuple_iterator", data := .fields #[.ref t, .int 0 0] }
abbrev enumOb (i : Addr) : Obj := { cls := .type "enumerate", data := .fields #[.none, .bool false, .ref i, rawInt 0, .none, .none] }
theorem new_enumT (t : Addr) (xs : Array Value) (n : Nat) (dct : Option Addr) (sl : Array (Option Value)) :
    Meets (Builtin.«enumerate.__new__» ⟨[.type "enumerate", .ref t], []⟩) (fun _ R s => s.heap.get? t = some { cls := .type "tuple", dict := dct, data := .seq xs n, slots := sl } ∧
      R (.ok (.ret (.ref (s.heap.push (tupIt t)).objs.size))) { s with heap := (s.heap.push (tupIt t)).push (enumOb s.heap.objs.size) }) :=
  .of_wp fun prog w A R s h => by
    obtain ⟨hp, g, d, tk, os⟩ := s
    obtain ⟨ht, h⟩ := h
    have sub := sub_enumerate
    have hT : Heap.IsTuple (Shared.heap ⟨hp, g, d, tk, os⟩) t xs := ⟨_, ht, rfl, n, rfl⟩
    wp_walk using wpAny_loadPart' ht
    refine wpAny_stack_any fun st => wpAny_pure ?_
    split
    · rename_i c _ _ _ _ _
      cases (c == Value.type "enumerate")
      · wp_walk using wpAny_loadPart' ht, wpAny_pyIter_tuple hT
        exact ⟨_, rfl, h⟩
      · wp_walk using wpAny_loadPart' ht, wpAny_pyIter_tuple hT
        exact ⟨_, rfl, h⟩
    · wp_walk using wpAny_loadPart' ht, wpAny_pyIter_tuple hT
      exact ⟨_, rfl, h⟩
section
variable {prog : Program} {w : World} {A : Around} {E : Value → Shared → Prop} {s : Shared}
theorem call_enumT {t : Addr} {xs : Array Value} {Q : Value → Shared → Prop} (hT : s.heap.IsTuple t xs)
    (k : ∀ g, IsEnum g (s.heap.objs.size + 1) s.heap.objs.size 0 .none → g.IsTupleIter s.heap.objs.size t 0 → (∀ b o, s.heap.get? b = some o → g.get? b = some o) → Q (.ref (s.heap.objs.size + 1)) { s with heap := g }) :
    wpAny (model prog w) A (call (.type "enumerate") [.ref t]) Q E s := by
  obtain ⟨⟨c, dct, dt, sl⟩, ht, hc, n, hd⟩ := hT
  have hc2 : c = .type "tuple" := hc
  have hd2 : dt = .seq xs n := hd
  subst hc2 hd2
  refine callType_new F.called_enumerate (by decide) (F.typeCall_enumerate_1 _) (F.newCall_enumerate_1 _) (fun obj => F.args_object_init_2 obj _) F.entry_enumerate_new (new_enumT t xs n dct sl) ⟨ht, ?_⟩
  have sz : (s.heap.push (tupIt t)).objs.size = s.heap.objs.size + 1 := Heap.size_push ..
  have he := Heap.get?_push_size (s.heap.push (tupIt t)) (o := enumOb s.heap.objs.size) rfl
  rw [sz] at he
  show _ ∧ _
  rw [sz]
  exact ⟨⟨_, he, rfl⟩, k _ he ⟨_, Heap.get?_push_of_some _ (Heap.get?_push_size _ rfl), rfl, rfl⟩ fun b o x => Heap.get?_push_of_some _ (Heap.get?_push_of_some _ x)⟩
end
/-- the tuple at a, each item in a new pair with its number -/
def IteT (K : PySem.W.Frag) (a : Addr) : It :=
  ⟨fun i H => ∃ (xs : List V) (x : V), SqT K H a xs ∧ xs[i]? = some x, fun i H v H' => ∃ T x, v = .ref T ∧ H T = none ∧ H' = upd H T (.tup [.int (i : Nat), x]) ∧ ∀ xs, SqT K H a xs → xs[i]? = some x, fun i H => ∃ xs : List V, SqT K H a xs ∧ xs.length = i⟩
theorem turn_enumT {P : Program} {w : World} {K : PySem.W.Frag} {elts : List Expr} {kk : Nat} {tpos : Pos} (a e it : Addr) :
    Turn P w K (.Tuple elts kk tpos) (IteT K a) [e, it] e (fun i h => (∃ old, IsEnum h e it ((i : Nat) : Int) old) ∧ h.IsTupleIter it a i ∧ e ≠ it) where
  mem := by simp
  obj := fun i h st b hb => by
    obtain ⟨⟨old, he⟩, ⟨o, ho, hc, hd⟩, _⟩ := st
    rcases List.mem_cons.mp hb with z | z
    · rw [z]; exact ⟨_, he, fun v q => nomatch q⟩
    · rw [List.mem_singleton.mp z]; exact ⟨o, ho, fun v q => by rw [hd] at q; cases q⟩
  keep := fun i h h' st k => let ⟨⟨old, he⟩, hi, hne⟩ := st; ⟨⟨old, k e (by simp) _ he⟩, hi.at fun o q => k it (by simp) o q, hne⟩
  item := by
    intro X hP hw hK hc i pins s σ H E I hf st hg
    subst hP hw hK
    obtain ⟨⟨old, he⟩, hit, hne⟩ := st
    obtain ⟨xs, x, hq, hx⟩ := hg
    obtain ⟨its, rv, p, hz⟩ := I.tuple hq
    obtain ⟨u, hu, ru⟩ := rv.get hx
    have hel : e < s.heap.objs.size := Heap.lt_size he
    have hil : it < s.heap.objs.size := by obtain ⟨_, q, _⟩ := hit; exact Heap.lt_size q
    have hIT : s.heap.IsTuple a its.toArray := p
    have hail : a ≠ it := fun z => by
      obtain ⟨o, q1, q2, _⟩ := hit
      obtain ⟨o', q3, q4, _⟩ := hIT
      rw [z, q1] at q3
      cases q3
      rw [q2] at q4
      exact absurd q4 (by decide)
    have hae : e ∉ [it, a] := fun z => by
      rcases List.mem_cons.mp z with z | z
      · exact hne z
      · have z := List.mem_singleton.mp z
        obtain ⟨o', q3, q4, _⟩ := hIT
        have he' : s.heap.get? e = some _ := he
        rw [z, q3] at he'
        cases he'
        exact absurd q4 (show ¬ Value.type "enumerate" = Value.type "tuple" by decide)
    have D := Draws.tuple (prog := X.prog) (w := X.w) (A := X.A.in1) (I.ok.hd hc) it a hail its.toArray
    have hil2 : i < its.toArray.size := by
      have := (List.getElem?_eq_some_iff.mp hu).1
      simpa using this
    refine wpAny_pyNext_enum_itemD D he ⟨hit, hIT⟩ hil2 hne hae fun y g tk hy ho hst hT hsz hk => ?_
    have hyu : y = u := by
      have : its.toArray[i]? = some u := by simpa using hu
      rw [this] at hy
      exact (Option.some.inj hy).symm
    subst hyu
    refine ⟨_, rfl, wpAny_letOwnedTupleGo_enum (s := { s with heap := g, toks := tk + 1 }) ho fun g2 he' sb => ?_⟩
    have hT2 : g2.get? s.heap.objs.size = some { cls := .type "tuple", data := .seq #[.int i tk, y] } := (sb.2 _ (Nat.ne_of_gt hel)).trans hT
    have new : ObjOk X.prog X.w (upd H s.heap.objs.size (.tup [.int (i : Nat), x])) g2 s.heap.objs.size (.tup [.int (i : Nat), x]) :=
      ⟨by show 2 ≤ sizeLine; decide, [.int i tk, y], .cons ⟨_, rfl⟩ (.cons ru .nil), ⟨_, hT2, rfl, _, rfl⟩⟩
    have I1 : Inv X pins σ (upd H s.heap.objs.size (.tup [.int (i : Nat), x])) { s with heap := g2, toks := tk + 1 } :=
      I.turnedNew (ch := [e, it]) (fun b ob hb q => (sb.2 b (fun z => hb (by simp [z]))).trans (hk b ob (fun z => hb (by simp [z])) (fun z => hb (by simp [z])) q)) hf (Nat.le_refl _) new
    refine ⟨.ref s.heap.objs.size, _, I1, rfl, ⟨_, x, rfl, I.hok.fresh (Nat.le_refl _), rfl, fun ys hy => by rw [I.tuple_inj hy hq]; exact hx⟩, ⟨⟨y, ?_⟩, hst.1.at fun o q => (sb.2 it (Ne.symm hne)).trans q, hne⟩, fun b hb => ?_⟩
    · have e1 : ((i + 1 : Nat) : Int) = (i : Int) + 1 := by omega
      rw [e1]
      exact he'
    · have hb' : b < s.heap.objs.size := by
        rcases List.mem_cons.mp hb with z | z
        · rw [z]; exact hel
        · rw [List.mem_singleton.mp z]; exact hil
      rw [upd_ne (Nat.ne_of_lt hb')]
      exact (hf b hb).1
  done := by
    intro X hP hw hK hc i pins s σ H E I hf st hg
    subst hP hw hK
    obtain ⟨⟨old, he⟩, hit, hne⟩ := st
    obtain ⟨xs, hq, hx⟩ := hg
    obtain ⟨its, rv, p, hz⟩ := I.tuple hq
    have hIT : s.heap.IsTuple a its.toArray := p
    have hail : a ≠ it := fun z => by
      obtain ⟨o, q1, q2, _⟩ := hit
      obtain ⟨o', q3, q4, _⟩ := hIT
      rw [z, q1] at q3
      cases q3
      rw [q2] at q4
      exact absurd q4 (by decide)
    obtain ⟨f0, f1, f2, f3, f4, f5⟩ := hf it (by simp)
    have hl := rv.length
    have D := Draws.tuple (prog := X.prog) (w := X.w) (A := X.A.in1) (I.ok.hd hc) it a hail its.toArray
    have ei : i = its.toArray.size := by simp; omega
    rw [ei] at hit
    exact wpAny_pyNext_enum_endD D he ⟨hit, hIT⟩ fun g eb => ⟨rfl, I.turned (t' := s.toks) (fun b o hb q => eb b o hb q) f0 f1 f3 f4 f5⟩
  self := fun A i s Q E st h => let ⟨⟨_, he⟩, _⟩ := st; wpAny_pyIter_enum he h
def iEnumT (K : PySem.W.Frag) (ta : TA) : TI := fun σ H R => ta σ H fun vs H1 => ∃ a xs, vs = [.ref a] ∧ SqT K H1 a xs ∧ R (IteT K a) H1
theorem pi_enumT {X : Cx} {e : Expr} {ta : TA} {p pos tpos : Pos} {elts : List Expr} {kk : Nat} (hg : Gl X "enumerate") (hm : X.mg "enumerate" = none) (ha : PA X [e] ta) (hs : starEach [e] X.env = [(false, eval e X.env)] := by rfl) :
    PI X (.Tuple elts kk tpos) (.Call (.Name "enumerate" p) [e] [] pos) (iEnumT X.K ta) := by
  refine ⟨fun pins s σ H R I h => Call_ (ld_blt I hg hm boot_enumerate (PyProof.Rows.callWith_type1 (thn (ha.run pos pins s σ H _ I h) fun us s1 ⟨vs, H1, I1, r1, q1⟩ => ?_) hs rfl))⟩
  obtain ⟨a, xs, rfl, hq, q⟩ := q1
  obtain ⟨u, rfl, rx⟩ := vals1 r1
  cases rx
  obtain ⟨its, rv, p', hz⟩ := I1.tuple hq
  refine call_enumT (xs := its.toArray) p' fun g he hit hk => wpAny_pyIter_enum he ?_
  have I2 : Inv X pins σ H1 { s1 with heap := g } := I1.kept (t' := s1.toks) hk
  refine ⟨s1.heap.objs.size + 1, [s1.heap.objs.size + 1, s1.heap.objs.size], _, _, H1, rfl, I2, turn_enumT a (s1.heap.objs.size + 1) s1.heap.objs.size, ⟨⟨.none, he⟩, hit, Nat.succ_ne_self _⟩, fun b hb => ?_, q⟩
  have hle : s1.heap.objs.size ≤ b := by
    rcases List.mem_cons.mp hb with z | z
    · rw [z]; exact Nat.le_add_right _ _
    · rw [List.mem_singleton.mp z]; exact Nat.le_refl _
  exact I1.fpOk hle (I1.hok.fresh hle)
theorem walk_enumT {K : PySem.W.Frag} {a : Addr} {xs : List V} : Walk (IteT K a) xs.length (fun H => SqT K H a xs) (YPair (fun i => some (.int (i : Nat))) (fun i => xs[i]?)) where
  goes := fun i H hi h => ⟨xs, xs[i], h, List.getElem?_eq_getElem hi⟩
  stops := fun H h => ⟨xs, h, rfl⟩
  yields := fun i H x H' _ h y => by
    obtain ⟨T, z, e1, e2, e3, e4⟩ := y
    exact ⟨T, .int (i : Nat), z, e1, e2, e3, rfl, e4 xs h⟩
end Nv
set_option Elab.async false
set_option linter.all false
set_option maxRecDepth 100000
/-! several clauses 'except X as n', all of one name n (slot i) -/
namespace Nv
open PySem PySem.Spec PyProof.Rows L2
abbrev Cl := Value × (Addr → Value → Option Addr → TS)
/-- behind the suite the slot is empty -/
abbrev dropS (i : Nat) (D : Ends) : Ends := { nx := fun σ H => D.nx (σ.set i none) H, rt := D.rt, bk := fun σ H => D.bk (σ.set i none) H, ct := fun σ H => D.ct (σ.set i none) H }
def wAll (K : PySem.W.Frag) (Wout : WX) (D : Ends) (i : Nat) : List Cl → WX
  | [] => Wout
  | p :: r => fun cls d σ H => ∃ yes, PySem.W.exmOne K cls p.1 = some yes ∧ (yes = true → ∀ a, H a = none → p.2 a cls d (dropS i D) (σ.set i (some (.ref a))) H) ∧ (yes = false → wAll K Wout D i r cls d σ H)
/-- the clauses, each with its suite's reading -/
inductive Cls (X : Cx) (n : Str) : List ExceptHandler → List Cl → Prop
  | none : Cls X n [] []
  | one {x : Str} {c : Value} {ts : Addr → Value → Option Addr → TS} {st : Stmt} {more : List Stmt} {np hp : Pos} {hs : List ExceptHandler} {l : List Cl} (nm : Names X x c)
      (su : ∀ (a : Addr) (oe : Obj) (cls : Value) (d : Option Addr) (pn : List (Addr × Obj)), Zc cls d oe → (∃ vs, oe.data = .fields vs) → PSs (X.suite a ((a, oe) :: pn)) (st :: more) (ts a cls d)) (rest : Cls X n hs l) :
      Cls X n (.ExceptHandler (some (.Name x np)) (some n) (st :: more) hp :: hs) ((c, ts) :: l)
section
variable {X : Cx} {n : Str} {i : Nat} {Wout : WX} {D : Ends} {pins : List (Addr × Obj)} {σ : L2.St} {H : Hp} {B : Heap} {a : Addr} {cls : Value} {d : Option Addr}
/-- the clauses looked at one after the other; the exception at a flies over this frame in the heap h3 -/
theorem clauses_run (hf : X.env.frame = some X.env.locals) (hN : X.N.Nodup) (hi : X.N[i]? = some n) (hln : X.env.kindOf n = some .local) (tk : Takes X Wout) {s' : Shared} {h3 : Heap} (ok : X.Ok)
    (na : H a = none) (nL : a ≠ X.env.locals) (nF : a ∉ X.fs) (here : Inv X pins σ H { s' with heap := h3 })
    (land : ∀ h4, HandSPX.FlyingZ B (X.env :: X.outer) a (Zc cls d) h4 → h3.UpToSlots h4 → Inv X pins σ H { s' with heap := h4 }) (fly : HandSPX.FlyingZ B (X.env :: X.outer) a (Zc cls d) h3)
    (out : Wout cls d σ H → ∀ h4, HandSPX.HeldZ B (X.env :: X.outer) a (Zc cls d) X.env.locals h4 → h3.UpToSlots h4 → XE X Wout (.ref a) { s' with heap := h4 }) :
    ∀ {hds : List ExceptHandler} {l : List Cl}, Cls X n hds l → wAll X.K Wout D i l cls d σ H → wpAny (model X.prog X.w) X.A (handleBy (.ref a) X.env hds) (SP X pins D) X.xe { s' with heap := h3 } := by
  intro hds l hc
  obtain ⟨oe, vs, he, hz, hd⟩ := fly.there
  induction hc with
  | none =>
    intro w
    obtain ⟨_, _, _, _, vs2, T, _, _, he2, _, hd2, h1, _⟩ := id fly
    refine wpAny_handleBy_nil ?_
    unfold PySem.passOn
    refine wpAny_bind (wpAny_field he2 hd2 h1 ?_)
    rw [if_neg (by simp)]
    have leave : wpAny (model X.prog X.w) X.A (setFlight (.ref a) X.env.frame) (fun _ s4 => wpAny (model X.prog X.w) X.A (throw (.ref a) : Sem Flow) (SP X pins D) X.xe s4) X.xe { s' with heap := h3 } := by
      rw [hf]
      exact HandSPX.setFlight_upZ fly fun h4 held up4 => wpAny_throw (tk _ _ (out w h4 held up4))
    first
      | exact wpAny_bind leave
      | exact wpAny_bind (wpAny_pure (wpAny_bind leave))
  | @one x c ts st more np hp hs l nm su rest ih =>
    rintro ⟨yes, hy, w1, w2⟩
    have S3 := here.suite he hd na nL nF
    have cl : PySem.W.Looks (model X.prog X.w) h3 (typeOf (.ref a)) cls := fun A Q E s k q => wpAny_typeOf_ref (k _ _ he) (by rw [hz.1]; exact q)
    refine wpAny_handleBy_cons (codeAny_handlers_test ?_) (fun q => by cases q)
    have named : ∀ {Q E : Value → Shared → Prop}, Q c { s' with heap := h3 } → wpAny (model X.prog X.w) (X.A.mark (some (.ref a))) (eval (.Name x np) X.env) Q E { s' with heap := h3 } := fun {Q E} q => by
      obtain ⟨hg, hdb, hm | ⟨hm, hv, hn⟩⟩ := nm
      · exact ld_glob (X := X.suite a ((a, oe) :: (X.pn ++ pins))) S3 hg hm q hdb
      · exact ld_blt (X := X.suite a ((a, oe) :: (X.pn ++ pins))) S3 hg hm hv q hn hdb
    refine named ((PySem.W.exm_one (M := model X.prog X.w) here.kIn cl hy).here ?_)
    cases yes with
    | false => exact ih (w2 rfl)
    | true =>
      refine codeAny_handlers_suite_as (HandSPX.lands_againZ fly fun h4 fly4 up4 => ?_)
      have J4 := land h4 fly4 up4
      obtain ⟨oe4, vs4, he4, hz4, hd4⟩ := fly4.there
      refine store_ok (X := X.suite a ((a, oe4) :: (X.pn ++ pins))) (v := .ref a) (J4.suite he4 hd4 na nL nF) hN hi (.inl hln) rfl (fun s5 S5 => ?_) (.inr hln)
      have after : ∀ {s6 : Shared} {σ6 : L2.St} {H6 : Hp} {R : Shared → Prop}, Inv (X.suite a ((a, oe4) :: (X.pn ++ pins))) [] σ6 H6 s6 → (∀ s7, Inv X pins (σ6.set i none) H6 s7 → R s7) →
          wpAny (model X.prog X.w) X.A (do bindName X.env n .none; unbindBehindTheSuite X.env n hp) (fun _ s7 => R s7) X.xe s6 := fun {s6 σ6 H6 R} S6 hq => gone_ok (S6.unsuite ok) hN hi hln hq
      refine wpAny_mono ((su a oe4 cls d (X.pn ++ pins) hz4 ⟨_, hd4⟩).run [] s5 _ H _ S5 (w1 rfl a na)) (fun fl s6 hsp => ?_) (fun _ _ z => False.elim z)
      cases fl with
      | ret u =>
        obtain ⟨v, σ6, H6, S6, r, q⟩ := hsp
        exact after S6 fun s7 J7 => ⟨_, _, _, J7, r, q⟩
      | next =>
        obtain ⟨σ6, H6, S6, q⟩ := hsp
        exact after S6 fun s7 J7 => ⟨_, _, J7, q⟩
      | brk =>
        obtain ⟨σ6, H6, S6, q⟩ := hsp
        exact after S6 fun s7 J7 => ⟨_, _, J7, q⟩
      | cont =>
        obtain ⟨σ6, H6, S6, q⟩ := hsp
        exact after S6 fun s7 J7 => ⟨_, _, J7, q⟩
end
section
variable {X : Cx} {n : Str} {i : Nat} {body : List Stmt} {hd0 : ExceptHandler} {hds : List ExceptHandler} {l : List Cl} {pos : Pos} {tb : WX → TS} {Wout : WX}
theorem ps_try_all (hs : X.stack = X.env :: X.outer) (hf : X.env.frame = some X.env.locals) (hN : X.N.Nodup) (hi : X.N[i]? = some n) (hln : X.env.kindOf n = some .local) (tk : Takes X Wout)
    (hb : ∀ (W : WX) (pn : List (Addr × Obj)) (xe : Value → Shared → Prop), Takes (X.tr pn xe) W → PassesOwn (model X.prog X.w) X.A X.env xe → PSs (X.tr pn xe) body (tb W)) (hc : Cls X n (hd0 :: hds) l) :
    PS X (.Try body (hd0 :: hds) [] [] pos) (fun D σ H => tb (wAll X.K Wout D i l) D σ H) := by
  refine ⟨fun pins s σ H D I h => wpAny_Try_except ?_⟩
  have ok := I.ok
  have hfr : X.A.frames = some (X.env :: X.outer) := by rw [ok.frames, hs]
  have run := (hb (wAll X.K Wout D i l) (X.pn ++ pins) (fun e s₁ => wpAny (model X.prog X.w) X.A (noteFrame e X.env) (fun _ s₂ => wpAny (model X.prog X.w) X.A (setFlight e none) (fun _ s₃ => wpAny (model X.prog X.w) X.A (handleBy e X.env (hd0 :: hds)) (SP X pins D) X.xe s₃) X.xe s₂) X.xe s₁)
    (fun u s' xx => ?_) PassesOwn.looking).run [] s σ H D (I.toTry _) h
  · refine wpAny_mono run (fun fl s1 hsp => ?_) (fun e s1 he => he)
    cases fl with
    | ret u =>
      obtain ⟨v, σ', H', J, r, q⟩ := hsp
      exact ⟨v, σ', H', J.ofTry ok, r, q⟩
    | next =>
      obtain ⟨σ', H', J, q⟩ := hsp
      exact wpAny_execs_nil ⟨σ', H', J.ofTry ok, q⟩
    | brk =>
      obtain ⟨σ', H', J, q⟩ := hsp
      exact ⟨σ', H', J.ofTry ok, q⟩
    | cont =>
      obtain ⟨σ', H', J, q⟩ := hsp
      exact ⟨σ', H', J.ofTry ok, q⟩
  · obtain ⟨a, B, sI, _, σ', H', cls, d, rfl, J', nb, up, sky, na, os, ag, w⟩ := xx
    have J : Inv X pins σ' H' sI := J'.ofTry ok
    have sky' : Sky B (X.env :: X.outer) a (Zc cls d) X.env.locals s'.heap := by rw [← hs]; exact sky
    show wpAny (model X.prog X.w) X.A (noteFrame (.ref a) X.env) _ _ _
    refine Sky.land Zc.steady hfr hf sky' fun h3 fly up3 => ?_
    have land : ∀ h4, HandSPX.FlyingZ B (X.env :: X.outer) a (Zc cls d) h4 → h3.UpToSlots h4 → Inv X pins σ' H' { s' with heap := h4 } := fun h4 f4 u4 => J.landed nb f4.1 ((up.trans up3).trans u4) os ag
    have here : Inv X pins σ' H' { s' with heap := h3 } := J.landed nb fly.1 (up.trans up3) os ag
    obtain ⟨oe, vs, he, hz, hd⟩ := fly.there
    have nfr : a ∉ frs (X.env :: X.outer) := fun hm => by
      obtain ⟨_, o', e', no⟩ := fly.2.2.1.mem hm
      rw [he] at e'
      cases e'
      exact no _ hd
    have nL : a ≠ X.env.locals := fun z => nfr (List.mem_filterMap.mpr ⟨X.env, List.mem_cons_self, by rw [hf, z]⟩)
    have nF : a ∉ X.fs := fun hm => by
      obtain ⟨e, h1, h2⟩ := List.mem_filterMap.mp hm
      exact nfr (List.mem_filterMap.mpr ⟨e, List.mem_cons_of_mem _ h1, h2⟩)
    refine clauses_run hf hN hi hln tk ok na nL nF here land fly (fun wo h4 held u4 => ?_) hc w
    exact ⟨a, B, sI, pins, σ', H', cls, d, rfl, J, nb, (up.trans up3).trans u4, .inr (.inr (by rw [hs]; exact held)), na, os, ag, wo⟩
end
end Nv
set_option Elab.async false
set_option linter.all false
set_option maxRecDepth 100000
/-! own exceptions with two fields: what, and kind, the name of their class -/
namespace Nv
open PySem PySem.Spec PyProof.Rows L2
/-- what an exception tells of its class C and of the class's name -/
structure ExcN (K : PySem.W.Frag) (C : Addr) (nm : Str) : Prop where
  ga : PySem.W.findIn K (.ref C) "__getattribute__" = some (some (.builtin "BaseException.__getattribute__"))
  gg : PySem.W.findIn K (.ref C) "__getattr__" = some none
  exC : PySem.W.subIn K (.ref C) (.type "BaseException") = some true
  isc : PySem.W.isClsIn K C = true
  ca : PySem.W.findIn K (.ref C) "__class__" = some (some (.builtin "object.__class__"))
  cn : PySem.W.specialIn K (.builtin "object.__class__") "__get__" = some (some (.builtin "getset_descriptor.__get__"))
  ct : PySem.W.takesIn K (.builtin "object.__class__") = some true
  cm : PySem.W.mroIn K C (.type "object") = some true
  rd : PySem.W.readsIn K C (.type "type") = true
  fn : PySem.W.findCls K (.ref C) (.type "type") "__name__" = some (.get (.builtin "getset_descriptor.__get__") (.builtin "type.__name__") (.ref C) (.type "type"))
  sl : ∃ c d dt sl tk, K.lookup C = some ⟨c, d, dt, sl⟩ ∧ sl[2]? = some (some (.str nm tk))
  nk : PySem.W.findIn K (.ref C) "kind" = some none
section
open PySem.Calls Builtin.Getset_descriptor
variable {prog : Program} {w : World} {A : Around} {E : Value → Shared → Prop} {s : Shared} {K : PySem.W.Frag} {x D : Addr} {ox : Obj} {od : Option Obj} {nm : Str}
theorem exc_cls {expr : Bool} {Q : Value → Shared → Prop} (N : ExcN K D nm) (hf : PySem.W.findObj K D od "__class__" = some (.bind (.builtin "getset_descriptor.__get__") (.builtin "object.__class__")))
    (X : K.In s.heap) (I : PySem.W.InstAt s.heap x ox D od) (h : Q (.ref D) { s with toks := s.toks + 1 }) : wpAny (model prog w) A (getAttr (.ref x) "__class__" expr) Q E s := by
  obtain ⟨hp, g, d, t, os⟩ := s
  have L0 := I.type (M := model prog w)
  have L1 := PySem.W.looks_findIn (M := model prog w) X N.ga
  have L2 := PySem.W.looks_findIn (M := model prog w) X N.gg
  have L3 := PySem.W.looks_find (M := model prog w) X I hf
  have sub : PySem.W.Looks (model prog w) hp (isInstance (.ref x) (.type "BaseException")) true := L0.andThen (PySem.W.looks_subIn X N.exC)
  have hx0 : (expr && onTheHeap (Value.builtin "BaseException.__getattribute__")) = false := by cases expr <;> rfl
  have hx2 : (Value.builtin "BaseException.__getattribute__" == Value.builtin "object.__getattribute__") = false := by decide +kernel
  have hx1 : (onTheHeap (Value.ref D) && Value.builtin "BaseException.__getattribute__" == Value.builtin "object.__getattribute__") = false := by rw [hx2]; rfl
  unfold getAttr getAttrBy
  refine wpAny_bind (wpAny_mkText (wpAny_holding (wpAny_bind (L0.at (wpAny_bind (L1.at ?_))))))
  show wpAny _ _ (if (onTheHeap (Value.ref D) && Value.builtin "BaseException.__getattribute__" == Value.builtin "object.__getattribute__") = true then _ else _) _ _ _
  rw [hx1, if_neg Bool.false_ne_true]
  unfold getAttrByItsOwn hookBefore
  refine wpAny_bind ?_
  rw [if_pos (show onTheHeap (Value.ref D) = true from rfl)]
  refine L2.at ?_
  refine wpAny_bind (wpAny_attempt (wpAny_holding ?_))
  unfold callGetattribute
  rw [hx0, if_neg Bool.false_ne_true]
  unfold boundAndCalled
  rw [PySem.F.excAttr_ValueError.ga.bind (.ref x)]
  refine wpAny_bind (wpAny_pure ?_)
  show wpAny _ _ (call (.builtin "BaseException.__getattribute__") [.ref x, .str "__class__" t]) _ _ _
  refine wpAny_call (codeAny_call_builtin PySem.F.excAttr_ValueError.ga.plain PySem.F.entry_bexc_ga ?_)
  refine @PySem.W.check_slot (model prog w) _ _ ⟨hp, g, d, t + 1, os⟩ "BaseException.__getattribute__" "BaseException" "__getattribute__" (.ref x) [.str "__class__" t] [] _ (by decide +kernel) (by decide +kernel) sub (PySem.F.args_bexc_ga (.ref x) (.str "__class__" t)) ?_
  unfold Builtin.«object.__getattribute__»
  refine wpAny_bind (wpAny_of_eq (a := ((Value.ref x : Value), [Value.str "__class__" t])) (by first | rfl | (simp only [slotArgs]; rfl)) ?_)
  refine wpAny_bind (wpAny_pure (wpAny_bind (L0.at (wpAny_bind (L3.at ?_)))))
  show wpAny _ _ (holding [Value.builtin "object.__class__"] (call (.builtin "getset_descriptor.__get__") [.builtin "object.__class__", .ref x, .ref D]) >>= ret) _ _ _
  refine wpAny_bind (wpAny_holding (wpAny_call (PySem.W.class_get (s := ⟨hp, g, d, t + 1, os⟩) (ox := ox) (od := od) X I N.cm ?_)))
  refine wpAny_pure ?_
  show wpAny _ _ (handedOut (.ref D)) _ _ _
  rw [PySem.W.handedOut_of (v := .ref D) rfl]
  first
    | exact wpAny_pure (wpAny_pure h)
    | exact wpAny_pure h
    | exact wpAny_pure (wpAny_bind (wpAny_pure (wpAny_pure h)))
theorem cname_get {tp v : Value} {R : Result → Shared → Prop} (X : K.In s.heap) (ht : PySem.W.typeIn K (.ref D) = some (.type "type")) {c : Value} {dd : Option Addr} {dt : Data} {sl : Array (Option Value)} (hC : K.lookup D = some ⟨c, dd, dt, sl⟩) (hs : sl[2]? = some (some v))
    (h : R (.ok (.ret v)) s) : codeAny (model prog w) A (.call (.builtin "getset_descriptor.__get__") ⟨[.builtin "type.__name__", .ref D, tp], []⟩) R s := by
  obtain ⟨hh, g, dr, t, os⟩ := s
  have L0 : PySem.W.Looks (model prog w) hh (typeOf (.ref D)) (.type "type") := PySem.W.looks_typeIn X ht
  have L1 : PySem.W.Looks (model prog w) hh (isSubtype (.type "type") (.type "type")) true := PySem.W.Looks.of_pure (by rw [isSubtype_type]; kernel_rfl)
  have ho := X _ _ hC
  dsimp only at ho
  refine codeAny_call_builtin PySem.W.KF.slot_gs.plain PySem.W.KF.entry_gs (PySem.W.KF.slot_gs.check _ _ _ _ _ _ _ _ PySem.W.ktyn_type (PySem.W.KF.args_gs _ _ _) ?_)
  unfold Builtin.«getset_descriptor.__get__» descrGet
  rw [PySem.W.dga_obj]
  refine wpAny_bind (wpAny_pure ?_)
  unfold descrGetter descrCheckInstance descrNameAndClass isInstance
  simp only [PySem.W.ktyn_owner]
  repeat lk
  refine ⟨Code.quiet_builtin _ (by decide +kernel), codeAny_builtin PySem.W.ktyn_entry ?_⟩
  unfold Builtin.«type.__name__»
  dsimp only
  unfold Builtin.keptObject PySem.slotAt
  dsimp only
  refine wpAny_bind (wpAny_bind (wpAny_loadPart_at ho (wpAny_pure ?_)))
  dsimp only
  rw [hs]
  exact wpAny_pure h
theorem exc_name {expr : Bool} {Q : Value → Shared → Prop} (N : ExcN K D nm) (X : K.In s.heap) (h : ∀ tk, Q (.str nm tk) { s with toks := s.toks + 1 }) : wpAny (model prog w) A (getAttr (.ref D) "__name__" expr) Q E s := by
  obtain ⟨c, dd, dt, sl, tk, hC, hs⟩ := N.sl
  have rd := N.rd
  simp only [PySem.W.readsIn, Bool.and_eq_true, beq_iff_eq] at rd
  refine PySem.W.cls_read X N.rd N.fn ?_
  show wpAny _ _ (do ret (← holding [Value.builtin "type.__name__"] (call (.builtin "getset_descriptor.__get__") [.builtin "type.__name__", .ref D, .type "type"]))) _ _ _
  refine wpAny_bind (wpAny_holding (wpAny_call (cname_get (s := { s with toks := s.toks + 1 }) X rd.1.1.1.2 hC hs ?_)))
  exact wpAny_pure (PySem.W.handed_on rfl (h _))
end
/-- e.__class__.__name__, e an exception that is being made -/
def tKind (K : PySem.W.Frag) (te : TE) : TE := fun σ H Q => te σ H fun x H1 => ∃ (a C dx : Addr) (fs : List (Str × V)) (nm : Str), x = .ref a ∧ H1 a = some (exo a C (some dx)) ∧ H1 dx = some (exd dx fs) ∧ ExcN K C nm ∧ Q (.str nm) H1
theorem pe_kind {X : Cx} {e : Expr} {te : TE} {p pos : Pos} (he : PE X e te) (hb : attributeBase e "__class__" X.env (eval e X.env) = eval e X.env := by rfl)
    (hb2 : attributeBase (.Attribute e "__class__" p) "__name__" X.env (eval (.Attribute e "__class__" p) X.env) = eval (.Attribute e "__class__" p) X.env := by rfl) : PE X (.Attribute (.Attribute e "__class__" p) "__name__" pos) (tKind X.K te) := by
  refine ⟨fun pins s σ H Q I h => attr_of hb2 (attr_of hb (thn (he.run pins s σ H _ I h) ?_))⟩
  rintro u s1 ⟨x, H1, I1, rx, a, C, dx, fs, nm, rfl, ea, ed, N, q⟩
  obtain rfl : u = Value.ref a := rx
  obtain ⟨t1, ho⟩ := exo_at I1.hok ea
  obtain ⟨mA, ⟨od, es, ep, ho2, hr⟩, rel⟩ := exd_at I1.hok ed
  have J : PySem.W.InstAt s1.heap a { cls := .ref C, dict := some dx, data := .fields #[.ref t1, .none, .none, .none, .bool false, .none] } C (some od) := ⟨ho, rfl, rfl, ho2⟩
  refine exc_cls N (PySem.W.findObj_data N.isc N.ca N.cn N.ct) I1.kIn J ?_
  refine exc_name (s := { s1 with toks := s1.toks + 1 }) N I1.kIn fun tk => ?_
  exact ⟨.str nm, H1, (I1.tok _).tok _, ⟨tk, rfl⟩, q⟩
/-- a class of the program's exceptions, with the __init__ at fI -/
structure ExcC (K : PySem.W.Frag) (mg : Str → Option Value) (name : Str) (fI : Addr) where
  C : Addr
  g : mg name = some (.ref C)
  o : OexC K C
  i : PySem.W.findIn K (.ref C) "__init__" = some (some (.ref fI))
  ga : PySem.W.findIn K (.ref C) "__getattribute__" = some (some (.builtin "BaseException.__getattribute__"))
  gg : PySem.W.findIn K (.ref C) "__getattr__" = some none
  no : PySem.W.findIn K (.ref C) "what" = some none
  nn : ExcN K C name
  hd : PySem.W.hasDictIn K C = true
  isc : PySem.W.isClsIn K C = true
/-- does 'except B' take an exception of the class A -/
theorem exm_is {K : PySem.W.Frag} {mg : Str → Option Value} {nA nB : Str} {fA fB : Addr} (A : ExcC K mg nA fA) (B : ExcC K mg nB fB) {b : Bool} (h : PySem.W.subIn K (.ref A.C) (.ref B.C) = some b) : PySem.W.exmOne K (.ref A.C) (.ref B.C) = some b := by
  have h1 : (PySem.W.subIn K (.ref B.C) (.type "BaseException") == some true) = true := by rw [B.o.exC] <;> rfl
  have h2 : ((PySem.W.clsIn K B.C).isSome && PySem.W.typeIn K (.ref B.C) == some (.type "type")) = true := by
    have e : (PySem.W.clsIn K B.C).isSome = true := B.isc
    rw [e, B.o.tyC] <;> rfl
  unfold PySem.W.exmOne
  rw [if_pos h1]
  show (if ((PySem.W.clsIn K B.C).isSome && PySem.W.typeIn K (.ref B.C) == some (.type "type")) = true then PySem.W.subIn K (.ref A.C) (.ref B.C) else none) = some b
  rw [if_pos h2]
  exact h
/-- __init__(self, what) -/
def sp_init (K : PySem.W.Frag) : Sp := fun vs H Q _ => ∃ (a C : Addr) (y : V) (nm : Str), vs = [.ref a, y] ∧ H a = some (exo a C none) ∧ OexC K C ∧ PySem.W.findIn K (.ref C) "what" = some none ∧ ExcN K C nm ∧
  ∀ dx, H dx = none → dx ≠ a → Q .non (upd (upd H dx (exd dx [("kind", .str nm), ("what", y)])) a (exo a C (some dx)))
abbrev xdW (nm : Str) (y : V) : HO := .xd [(("kind" : Str), V.str nm), (("what" : Str), y)]
/-- at dx: the dict of an exception of the program, its what is y -/
def XdAt (H : Hp) (dx : Addr) (y : V) : Prop := ∃ nm, H dx = some (xdW nm y)
/-- X(e) -/
def tMkX (C : Addr) (nm : Str) (te : TE) : L2.St → Hp → XK → Prop := fun σ H Q => te σ H fun y H1 => ∀ d, H1 d = none → Q (.ref C) (some d) (upd H1 d (xdW nm y))
/-- a word between an expression and what follows -/
def tMd (t : TE) : TE := fun σ H Q => ∃ M : VK, t σ H M ∧ ∀ v H', M v H' → Q v H'
theorem pe_md {X : Cx} {e : Expr} {t : TE} (h : PE X e t) : PE X e (tMd t) := ⟨fun pins s σ H Q I ⟨M, h1, h2⟩ => thn (h.run pins s σ H M I h1) fun u s' ⟨v, H', I', r, m⟩ => ⟨v, H', I', r, h2 v H' m⟩⟩
section
variable {X : Cx} {name : Str} {fI : Addr} {k : Nat} {fd : FuncData} {e : Expr} {te : TE} {p pos : Pos}
theorem pmk_X (D : ExcC X.K X.mg name fI) (tI : PySem.W.typeIn X.K (.ref fI) = some (.type "function")) (F : FnOk X.prog X.w X.K X.mg X.base CX0 k fI fd ["self", "what"] (sp_init X.K)) (hr : Room (k + 1) X.A) (hb : Binds X.K fd ["self", "what"] []) (hg : Gl X name)
    (he : PE X e te) (hdb : (name == ("__debug__" : Str)) = false := by decide) (hs : starEach (e :: []) X.env = (false, eval e X.env) :: starEach [] X.env := by rfl) (hpl : (backTo pos (starEach [] X.env)).any (·.1) = false := by rfl) :
    PMk X (.Call (.Name name p) [e] [] pos) (tMkX D.C name te) := by
  intro pins s σ H Q I h
  refine pmk_oex (ta := tCons (tMd te) tNil) D.o D.i tI F hr hb (.nil : Vals [] []) pass0 hg D.g (pa_cons (pe_md he) pa_nil hs) hdb hs hpl pins s σ H Q I ?_
  refine ⟨_, h, fun y H1 hy => ⟨(by show 1 ≤ 1000; decide), fun a na => ⟨a, D.C, y, name, rfl, upd_same, D.o, D.no, D.nn, fun dx nd ne => ?_⟩⟩⟩
  have nd1 : H1 dx = none := by rw [← nd, upd_ne ne]
  refine ⟨rfl, dx, [(("kind" : Str), V.str name), (("what" : Str), y)], upd_same, ?_, nd1, ?_⟩
  · rw [upd_ne ne, upd_same]
  · have e : upd (del (upd (upd (upd H1 a (exo a D.C none)) dx (exd dx [("kind", .str name), ("what", y)])) a (exo a D.C (some dx))) a) dx (xdW name y) = upd H1 dx (xdW name y) := by
      funext b
      by_cases h1 : b = dx
      · rw [h1, upd_same, upd_same]
      · rw [upd_ne h1, upd_ne h1]
        by_cases h2 : b = a
        · rw [h2, del_same, na]
        · rw [del_ne h2, upd_ne h2, upd_ne h1, upd_ne h2]
    rw [e]
    exact hy dx nd1
/-- e.what, e the exception that the suite holds at a -/
def tWhat (C a : Addr) (cls : Value) (d : Option Addr) (te : TE) : TE := fun σ H Q => te σ H fun x H1 => x = .ref a ∧ cls = .ref C ∧ ∃ (dd : Addr) (y : V), d = some dd ∧ XdAt H1 dd y ∧ Q y H1
theorem pe_what {a : Addr} {oe : Obj} {cls : Value} {d : Option Addr} {pn : List (Addr × Obj)} (D : ExcC X.K X.mg name fI) (hz : Zc cls d oe) (hf : ∃ vs, oe.data = .fields vs) (he : PE (X.suite a ((a, oe) :: pn)) e te)
    (hb : attributeBase e "what" X.env (eval e X.env) = eval e X.env := by rfl) : PE (X.suite a ((a, oe) :: pn)) (.Attribute e "what" pos) (tWhat D.C a cls d te) := by
  refine ⟨fun pins s σ H Q I h => attr_of hb (thn (he.run pins s σ H _ I h) ?_)⟩
  rintro u s1 ⟨x, H1, I1, rx, rfl, rfl, dd, y, rfl, ⟨nm, ea⟩, q⟩
  obtain rfl : u = Value.ref a := rx
  obtain ⟨ha, _⟩ := I1.pin (a, oe) (List.mem_append_left _ List.mem_cons_self)
  obtain ⟨vs, hd⟩ := hf
  obtain ⟨mA, hns, hr⟩ : ObjOk X.prog X.w H1 s1.heap dd (xdW nm y) := I1.hok dd _ ea
  obtain ⟨od, ho, hl⟩ := lookIn_ns hns
  have l : List.lookup ("what" : Str) [(("kind" : Str), V.str nm), (("what" : Str), y)] = some y := by
    rw [lookup_put, if_neg (by decide +kernel), lookup_put, if_pos rfl]
  obtain ⟨u, hu, ru⟩ := RelO.some_of (v := y) (o := mA "what") (by rw [← l]; exact hr "what")
  have J : PySem.W.InstAt s1.heap a oe D.C (some od) := ⟨ha, hz.1, by unfold PySem.W.notCls; rw [hd] <;> rfl, by rw [hz.2]; exact ho⟩
  exact HandSPX.exc_get I1.kIn J D.ga D.gg D.o.exC (PySem.W.findObj_own D.hd D.no rfl (by rw [hl, hu])) (handed_of ru) ⟨y, H1, I1.tok _, ru, q⟩
end
end Nv
set_option Elab.async false
set_option linter.all false
set_option maxRecDepth 100000
/-! several clauses, with a name (slot i) or without; isinstance of the caught error -/
namespace Nv
open PySem PySem.Spec PyProof.Rows L2
def wAll2 (K : PySem.W.Frag) (Wout : WX) (D : Ends) (i : Nat) : List (Bool × Cl) → WX
  | [] => Wout
  | (true, p) :: r => fun cls d σ H => ∃ yes, PySem.W.exmOne K cls p.1 = some yes ∧ (yes = true → ∀ a, H a = none → p.2 a cls d (dropS i D) (σ.set i (some (.ref a))) H) ∧ (yes = false → wAll2 K Wout D i r cls d σ H)
  | (false, p) :: r => fun cls d σ H => ∃ yes, PySem.W.exmOne K cls p.1 = some yes ∧ (yes = true → ∀ a, H a = none → p.2 a cls d D σ H) ∧ (yes = false → wAll2 K Wout D i r cls d σ H)
/-- the clauses, each with its suite's reading -/
inductive Cls2 (X : Cx) (n : Str) : List ExceptHandler → List (Bool × Cl) → Prop
  | none : Cls2 X n [] []
  | one {x : Str} {c : Value} {ts : Addr → Value → Option Addr → TS} {st : Stmt} {more : List Stmt} {np hp : Pos} {hs : List ExceptHandler} {l : List (Bool × Cl)} (nm : Names X x c)
      (su : ∀ (a : Addr) (oe : Obj) (cls : Value) (d : Option Addr) (pn : List (Addr × Obj)), Zc cls d oe → (∃ vs, oe.data = .fields vs) → PSs (X.suite a ((a, oe) :: pn)) (st :: more) (ts a cls d)) (rest : Cls2 X n hs l) :
      Cls2 X n (.ExceptHandler (some (.Name x np)) (some n) (st :: more) hp :: hs) ((true, c, ts) :: l)
  | bare {x : Str} {c : Value} {ts : Addr → Value → Option Addr → TS} {st : Stmt} {more : List Stmt} {np hp : Pos} {hs : List ExceptHandler} {l : List (Bool × Cl)} (nm : Names X x c)
      (su : ∀ (a : Addr) (oe : Obj) (cls : Value) (d : Option Addr) (pn : List (Addr × Obj)), Zc cls d oe → (∃ vs, oe.data = .fields vs) → PSs (X.suite a ((a, oe) :: pn)) (st :: more) (ts a cls d)) (rest : Cls2 X n hs l) :
      Cls2 X n (.ExceptHandler (some (.Name x np)) none (st :: more) hp :: hs) ((false, c, ts) :: l)
section
variable {X : Cx} {n : Str} {i : Nat} {Wout : WX} {D : Ends} {pins : List (Addr × Obj)} {σ : L2.St} {H : Hp} {B : Heap} {a : Addr} {cls : Value} {d : Option Addr}
/-- the clauses looked at one after the other; the exception at a flies over this frame in the heap h3 -/
theorem clauses_run2 (hf : X.env.frame = some X.env.locals) (hN : X.N.Nodup) (hi : X.N[i]? = some n) (hln : X.env.kindOf n = some .local) (tk : Takes X Wout) {s' : Shared} {h3 : Heap} (ok : X.Ok)
    (na : H a = none) (nL : a ≠ X.env.locals) (nF : a ∉ X.fs) (here : Inv X pins σ H { s' with heap := h3 })
    (land : ∀ h4, HandSPX.FlyingZ B (X.env :: X.outer) a (Zc cls d) h4 → h3.UpToSlots h4 → Inv X pins σ H { s' with heap := h4 }) (fly : HandSPX.FlyingZ B (X.env :: X.outer) a (Zc cls d) h3)
    (out : Wout cls d σ H → ∀ h4, HandSPX.HeldZ B (X.env :: X.outer) a (Zc cls d) X.env.locals h4 → h3.UpToSlots h4 → XE X Wout (.ref a) { s' with heap := h4 }) :
    ∀ {hds : List ExceptHandler} {l : List (Bool × Cl)}, Cls2 X n hds l → wAll2 X.K Wout D i l cls d σ H → wpAny (model X.prog X.w) X.A (handleBy (.ref a) X.env hds) (SP X pins D) X.xe { s' with heap := h3 } := by
  intro hds l hc
  obtain ⟨oe, vs, he, hz, hd⟩ := fly.there
  induction hc with
  | none =>
    intro w
    obtain ⟨_, _, _, _, vs2, T, _, _, he2, _, hd2, h1, _⟩ := id fly
    refine wpAny_handleBy_nil ?_
    unfold PySem.passOn
    refine wpAny_bind (wpAny_field he2 hd2 h1 ?_)
    rw [if_neg (by simp)]
    have leave : wpAny (model X.prog X.w) X.A (setFlight (.ref a) X.env.frame) (fun _ s4 => wpAny (model X.prog X.w) X.A (throw (.ref a) : Sem Flow) (SP X pins D) X.xe s4) X.xe { s' with heap := h3 } := by
      rw [hf]
      exact HandSPX.setFlight_upZ fly fun h4 held up4 => wpAny_throw (tk _ _ (out w h4 held up4))
    first
      | exact wpAny_bind leave
      | exact wpAny_bind (wpAny_pure (wpAny_bind leave))
  | @one x c ts st more np hp hs l nm su rest ih =>
    rintro ⟨yes, hy, w1, w2⟩
    have S3 := here.suite he hd na nL nF
    have cl : PySem.W.Looks (model X.prog X.w) h3 (typeOf (.ref a)) cls := fun A Q E s k q => wpAny_typeOf_ref (k _ _ he) (by rw [hz.1]; exact q)
    refine wpAny_handleBy_cons (codeAny_handlers_test ?_) (fun q => by cases q)
    have named : ∀ {Q E : Value → Shared → Prop}, Q c { s' with heap := h3 } → wpAny (model X.prog X.w) (X.A.mark (some (.ref a))) (eval (.Name x np) X.env) Q E { s' with heap := h3 } := fun {Q E} q => by
      obtain ⟨hg, hdb, hm | ⟨hm, hv, hn⟩⟩ := nm
      · exact ld_glob (X := X.suite a ((a, oe) :: (X.pn ++ pins))) S3 hg hm q hdb
      · exact ld_blt (X := X.suite a ((a, oe) :: (X.pn ++ pins))) S3 hg hm hv q hn hdb
    refine named ((PySem.W.exm_one (M := model X.prog X.w) here.kIn cl hy).here ?_)
    cases yes with
    | false => exact ih (w2 rfl)
    | true =>
      refine codeAny_handlers_suite_as (HandSPX.lands_againZ fly fun h4 fly4 up4 => ?_)
      have J4 := land h4 fly4 up4
      obtain ⟨oe4, vs4, he4, hz4, hd4⟩ := fly4.there
      refine store_ok (X := X.suite a ((a, oe4) :: (X.pn ++ pins))) (v := .ref a) (J4.suite he4 hd4 na nL nF) hN hi (.inl hln) rfl (fun s5 S5 => ?_) (.inr hln)
      have after : ∀ {s6 : Shared} {σ6 : L2.St} {H6 : Hp} {R : Shared → Prop}, Inv (X.suite a ((a, oe4) :: (X.pn ++ pins))) [] σ6 H6 s6 → (∀ s7, Inv X pins (σ6.set i none) H6 s7 → R s7) →
          wpAny (model X.prog X.w) X.A (do bindName X.env n .none; unbindBehindTheSuite X.env n hp) (fun _ s7 => R s7) X.xe s6 := fun {s6 σ6 H6 R} S6 hq => gone_ok (S6.unsuite ok) hN hi hln hq
      refine wpAny_mono ((su a oe4 cls d (X.pn ++ pins) hz4 ⟨_, hd4⟩).run [] s5 _ H _ S5 (w1 rfl a na)) (fun fl s6 hsp => ?_) (fun _ _ z => False.elim z)
      cases fl with
      | ret u =>
        obtain ⟨v, σ6, H6, S6, r, q⟩ := hsp
        exact after S6 fun s7 J7 => ⟨_, _, _, J7, r, q⟩
      | next =>
        obtain ⟨σ6, H6, S6, q⟩ := hsp
        exact after S6 fun s7 J7 => ⟨_, _, J7, q⟩
      | brk =>
        obtain ⟨σ6, H6, S6, q⟩ := hsp
        exact after S6 fun s7 J7 => ⟨_, _, J7, q⟩
      | cont =>
        obtain ⟨σ6, H6, S6, q⟩ := hsp
        exact after S6 fun s7 J7 => ⟨_, _, J7, q⟩
  | @bare x c ts st more np hp hs l nm su rest ih =>
    rintro ⟨yes, hy, w1, w2⟩
    have S3 := here.suite he hd na nL nF
    have cl : PySem.W.Looks (model X.prog X.w) h3 (typeOf (.ref a)) cls := fun A Q E s k q => wpAny_typeOf_ref (k _ _ he) (by rw [hz.1]; exact q)
    refine wpAny_handleBy_cons (codeAny_handlers_test ?_) (fun q => by cases q)
    have named : ∀ {Q E : Value → Shared → Prop}, Q c { s' with heap := h3 } → wpAny (model X.prog X.w) (X.A.mark (some (.ref a))) (eval (.Name x np) X.env) Q E { s' with heap := h3 } := fun {Q E} q => by
      obtain ⟨hg, hdb, hm | ⟨hm, hv, hn⟩⟩ := nm
      · exact ld_glob (X := X.suite a ((a, oe) :: (X.pn ++ pins))) S3 hg hm q hdb
      · exact ld_blt (X := X.suite a ((a, oe) :: (X.pn ++ pins))) S3 hg hm hv q hn hdb
    refine named ((PySem.W.exm_one (M := model X.prog X.w) here.kIn cl hy).here ?_)
    cases yes with
    | false => exact ih (w2 rfl)
    | true =>
      refine codeAny_handlers_suite ?_
      refine HandSPX.lands_againZ fly fun h4 fly4 up4 => ?_
      have J4 := land h4 fly4 up4
      obtain ⟨oe4, vs4, he4, hz4, hd4⟩ := fly4.there
      have S4 := J4.suite he4 hd4 na nL nF
      refine wpAny_mono ((su a oe4 cls d (X.pn ++ pins) hz4 ⟨_, hd4⟩).run [] _ _ H _ S4 (w1 rfl a na)) (fun fl s6 hsp => ?_) (fun _ _ z => False.elim z)
      cases fl with
      | ret u =>
        obtain ⟨v, σ6, H6, S6, r, q⟩ := hsp
        exact ⟨v, σ6, H6, S6.unsuite ok, r, q⟩
      | next =>
        obtain ⟨σ6, H6, S6, q⟩ := hsp
        exact ⟨σ6, H6, S6.unsuite ok, q⟩
      | brk =>
        obtain ⟨σ6, H6, S6, q⟩ := hsp
        exact ⟨σ6, H6, S6.unsuite ok, q⟩
      | cont =>
        obtain ⟨σ6, H6, S6, q⟩ := hsp
        exact ⟨σ6, H6, S6.unsuite ok, q⟩
end
section
variable {X : Cx} {n : Str} {i : Nat} {body : List Stmt} {hd0 : ExceptHandler} {hds : List ExceptHandler} {l : List (Bool × Cl)} {pos : Pos} {tb : WX → TS} {Wout : WX}
theorem ps_try_all2 (hs : X.stack = X.env :: X.outer) (hf : X.env.frame = some X.env.locals) (hN : X.N.Nodup) (hi : X.N[i]? = some n) (hln : X.env.kindOf n = some .local) (tk : Takes X Wout)
    (hb : ∀ (W : WX) (pn : List (Addr × Obj)) (xe : Value → Shared → Prop), Takes (X.tr pn xe) W → PassesOwn (model X.prog X.w) X.A X.env xe → PSs (X.tr pn xe) body (tb W)) (hc : Cls2 X n (hd0 :: hds) l) :
    PS X (.Try body (hd0 :: hds) [] [] pos) (fun D σ H => tb (wAll2 X.K Wout D i l) D σ H) := by
  refine ⟨fun pins s σ H D I h => wpAny_Try_except ?_⟩
  have ok := I.ok
  have hfr : X.A.frames = some (X.env :: X.outer) := by rw [ok.frames, hs]
  have run := (hb (wAll2 X.K Wout D i l) (X.pn ++ pins) (fun e s₁ => wpAny (model X.prog X.w) X.A (noteFrame e X.env) (fun _ s₂ => wpAny (model X.prog X.w) X.A (setFlight e none) (fun _ s₃ => wpAny (model X.prog X.w) X.A (handleBy e X.env (hd0 :: hds)) (SP X pins D) X.xe s₃) X.xe s₂) X.xe s₁)
    (fun u s' xx => ?_) PassesOwn.looking).run [] s σ H D (I.toTry _) h
  · refine wpAny_mono run (fun fl s1 hsp => ?_) (fun e s1 he => he)
    cases fl with
    | ret u =>
      obtain ⟨v, σ', H', J, r, q⟩ := hsp
      exact ⟨v, σ', H', J.ofTry ok, r, q⟩
    | next =>
      obtain ⟨σ', H', J, q⟩ := hsp
      exact wpAny_execs_nil ⟨σ', H', J.ofTry ok, q⟩
    | brk =>
      obtain ⟨σ', H', J, q⟩ := hsp
      exact ⟨σ', H', J.ofTry ok, q⟩
    | cont =>
      obtain ⟨σ', H', J, q⟩ := hsp
      exact ⟨σ', H', J.ofTry ok, q⟩
  · obtain ⟨a, B, sI, _, σ', H', cls, d, rfl, J', nb, up, sky, na, os, ag, w⟩ := xx
    have J : Inv X pins σ' H' sI := J'.ofTry ok
    have sky' : Sky B (X.env :: X.outer) a (Zc cls d) X.env.locals s'.heap := by rw [← hs]; exact sky
    show wpAny (model X.prog X.w) X.A (noteFrame (.ref a) X.env) _ _ _
    refine Sky.land Zc.steady hfr hf sky' fun h3 fly up3 => ?_
    have land : ∀ h4, HandSPX.FlyingZ B (X.env :: X.outer) a (Zc cls d) h4 → h3.UpToSlots h4 → Inv X pins σ' H' { s' with heap := h4 } := fun h4 f4 u4 => J.landed nb f4.1 ((up.trans up3).trans u4) os ag
    have here : Inv X pins σ' H' { s' with heap := h3 } := J.landed nb fly.1 (up.trans up3) os ag
    obtain ⟨oe, vs, he, hz, hd⟩ := fly.there
    have nfr : a ∉ frs (X.env :: X.outer) := fun hm => by
      obtain ⟨_, o', e', no⟩ := fly.2.2.1.mem hm
      rw [he] at e'
      cases e'
      exact no _ hd
    have nL : a ≠ X.env.locals := fun z => nfr (List.mem_filterMap.mpr ⟨X.env, List.mem_cons_self, by rw [hf, z]⟩)
    have nF : a ∉ X.fs := fun hm => by
      obtain ⟨e, h1, h2⟩ := List.mem_filterMap.mp hm
      exact nfr (List.mem_filterMap.mpr ⟨e, List.mem_cons_of_mem _ h1, h2⟩)
    refine clauses_run2 hf hN hi hln tk ok na nL nF here land fly (fun wo h4 held u4 => ?_) hc w
    exact ⟨a, B, sI, pins, σ', H', cls, d, rfl, J, nb, (up.trans up3).trans u4, .inr (.inr (by rw [hs]; exact held)), na, os, ag, wo⟩
end
/-! ### isinstance(e, C), which holds -/
theorem kit_ansT {K : PySem.W.Frag} {x t c : Value} {H : Heap → Prop} (ty : ∀ (M : Model) (h : Heap), K.In h → H h → PySem.W.Looks M h (typeOf x) t) (e : PySem.W.kitOne K t c = some true) : PySem.Answers (fun s => K.In s.heap ∧ H s.heap) x c true := by
  intro dep tk prog w A R s hs
  obtain ⟨h0, g, d, tt, os⟩ := s
  obtain ⟨⟨X, p⟩, hq⟩ := hs
  have LT := ty (model prog w) h0 X p
  unfold PySem.W.kitOne at e
  unfold Builtin.«isinstance.nested»
  refine wpAny_bind (LT.at ?_)
  by_cases q : (t == c) = true
  · rw [if_pos q] at e
    rw [if_pos q]
    first
      | ((repeat lk); exact hq tt)
      | exact wpAny_bind (wpAny_rule (hq tt))
      | exact wpAny_bind (wpAny_rule (wpAny_pure (hq tt)))
  · rw [if_neg q] at e
    rw [if_neg q]
    obtain ⟨hty, his, hsub⟩ := PySem.W.kit_cls (M := model prog w) X e
    have LI : PySem.W.Looks (model prog w) h0 (isInstance x c) true := LT.andThen hsub
    refine wpAny_bind (hty.at ?_)
    rw [if_pos (by decide)]
    k_delta "plainIsInstance"
    refine wpAny_bind (wpAny_bind (his.at ?_))
    simp only [Bool.not_true, Bool.false_eq_true, if_false]
    refine wpAny_bind (LI.at ?_)
    first
      | exact wpAny_pure (wpAny_pure (hq tt))
      | (simp only [if_true]; first | exact wpAny_pure (wpAny_pure (hq tt)) | exact wpAny_pure (hq tt) | exact wpAny_bind (wpAny_pure (wpAny_pure (hq tt))))
/-- isinstance(e, c), e the exception that the suite holds at a: it is one -/
def rIsET (K : PySem.W.Frag) (cls : Value) (a : Addr) : List V → Hp → VK → Prop := fun xs H Q => ∃ (c : V) (cv : Value), xs = [.ref a, c] ∧ (∀ u, RelV c u → u = cv) ∧ PySem.W.kitOne K cls cv = some true ∧ Q (.bl true) H
theorem call_isET {X : Cx} {a : Addr} {cls : Value} {d : Option Addr} {oe : Obj} {pn : List (Addr × Obj)} (hz : Zc cls d oe) : CallR (X.suite a ((a, oe) :: pn)) (.builtin "isinstance") (rIsET X.K cls a) := by
  intro pins s σ H xs us Q I r h
  obtain ⟨c, cv, rfl, hcv, e, q⟩ := h
  cases r with
  | cons rx rr =>
    cases rr with
    | cons rt rr =>
      cases rr
      cases rx
      have ec := hcv _ rt
      subst ec
      obtain ⟨hget, _⟩ := I.pin (a, oe) (List.mem_append.mpr (.inl List.mem_cons_self))
      refine PySem.call_isinstance (S := fun _ R s => (X.K.In s.heap ∧ s.heap.get? a = some oe) ∧ ∀ tk, R (.ok (.ret (.bool true))) { s with toks := tk })
        (fun prog w A R s hs => PySem.isinstance_outer (kit_ansT (H := fun h => h.get? a = some oe) (fun M h _ g => ?_) e 0 _ prog w A R s hs) (fun z => nomatch z)) ⟨⟨I.kIn, hget⟩, fun tk => ⟨.bl true, H, I.kept (t' := tk) fun _ _ z => z, rfl, q⟩⟩
      exact fun A' Q' E' s' k q => wpAny_typeOf_ref (k _ _ g) (by rw [hz.1]; exact q)
/-- a class of the program's that is looked at (the base of its own exceptions) -/
structure RefC (K : PySem.W.Frag) (mg : Str → Option Value) (name : Str) where
  C : Addr
  g : mg name = some (.ref C)
  isc : PySem.W.isClsIn K C = true
  ty : PySem.W.typeIn K (.ref C) = some (.type "type")
  be : PySem.W.subIn K (.ref C) (.type "BaseException") = some true
theorem RefC.kit {K : PySem.W.Frag} {mg : Str → Option Value} {n : Str} (B : RefC K mg n) {A : Addr} (h : PySem.W.subIn K (.ref A) (.ref B.C) = some true) : PySem.W.kitOne K (.ref A) (.ref B.C) = some true := by
  unfold PySem.W.kitOne
  split
  · rfl
  · show (if ((PySem.W.clsIn K B.C).isSome && PySem.W.typeIn K (.ref B.C) == some (.type "type")) = true then PySem.W.subIn K (.ref A) (.ref B.C) else none) = some true
    rw [if_pos ?_]
    · exact h
    · have e : (PySem.W.clsIn K B.C).isSome = true := B.isc
      rw [e, B.ty] <;> rfl
theorem RefC.exm {K : PySem.W.Frag} {mg : Str → Option Value} {n : Str} (B : RefC K mg n) {A : Addr} {b : Bool} (h : PySem.W.subIn K (.ref A) (.ref B.C) = some b) : PySem.W.exmOne K (.ref A) (.ref B.C) = some b := by
  have h1 : (PySem.W.subIn K (.ref B.C) (.type "BaseException") == some true) = true := by rw [B.be] <;> rfl
  have h2 : ((PySem.W.clsIn K B.C).isSome && PySem.W.typeIn K (.ref B.C) == some (.type "type")) = true := by
    have e : (PySem.W.clsIn K B.C).isSome = true := B.isc
    rw [e, B.ty] <;> rfl
  unfold PySem.W.exmOne
  rw [if_pos h1]
  show (if ((PySem.W.clsIn K B.C).isSome && PySem.W.typeIn K (.ref B.C) == some (.type "type")) = true then PySem.W.subIn K (.ref A) (.ref B.C) else none) = some b
  rw [if_pos h2]
  exact h
theorem kit_ve {K : PySem.W.Frag} {A : Addr} (h : PySem.W.subIn K (.ref A) (.type "ValueError") = some true) : PySem.W.kitOne K (.ref A) (.type "ValueError") = some true := by
  unfold PySem.W.kitOne
  rw [if_neg (by intro q; cases beq_iff_eq.mp q)]
  show (if PySem.W.kitMeta "ValueError" = true then PySem.W.subIn K (.ref A) (.type "ValueError") else none) = some true
  rw [if_pos (by decide +kernel)]
  exact h
end Nv
set_option Elab.async false
set_option linter.all false
set_option maxRecDepth 100000
namespace Nv
open PySem PySem.Spec PyProof.Rows L2
def topS (i : Nat) : Stmt := PySem.Challenge.pw_neverfour_k05_least_books.main.body.getD i (.Pass ⟨0, 0, 0, 0⟩)
abbrev s_whole : Stmt := topS 1
abbrev s_whole_within : Stmt := topS 2
abbrev s_tuple_within : Stmt := topS 3
abbrev s_first_rows : Stmt := topS 4
abbrev s_by_meeting : Stmt := topS 5
abbrev s_least_states : Stmt := topS 6
abbrev s_made_book : Stmt := topS 15
abbrev s_is_book : Stmt := topS 16
abbrev s_trimmed : Stmt := topS 17
abbrev s_check_form : Stmt := topS 18
abbrev s_has_state_form : Stmt := topS 19
abbrev s_least_book : Stmt := topS 21
abbrev s_alike : Stmt := topS 22
abbrev s_part_row : Stmt := topS 23
abbrev s_within : Stmt := topS 24
abbrev s_met_pairs : Stmt := topS 25
abbrev s_law_pool : Stmt := topS 27
abbrev s_law_draw : Stmt := topS 28
abbrev s_law_pick : Stmt := topS 29
abbrev s_law_turned : Stmt := topS 30
abbrev s_law_book_meeting : Stmt := topS 31
abbrev s_law_book_messages : Stmt := topS 32
abbrev s_law_book_drawn : Stmt := topS 33
abbrev s_law_book_next : Stmt := topS 34
abbrev s_law_book_renamed : Stmt := topS 35
abbrev s_law_book_copied : Stmt := topS 36
abbrev s_law_apart : Stmt := topS 37
abbrev s_law_unlike_states : Stmt := topS 38
abbrev s_law_least_right : Stmt := topS 39
abbrev s_law_two_right : Stmt := topS 40
abbrev s_law_led_elsewhere : Stmt := topS 41
abbrev s_law : Stmt := topS 42
structure DefAt (K : PySem.W.Frag) (mg : Str → Option Value) (name : Str) (st : Stmt) (ps : List Str) where
  f : Addr
  fd : FuncData
  F : Fun K name name st f fd
  g : mg name = some (.ref f)
  bd : ∀ us : List Value, us.length = ps.length → bindArgs fd ⟨us, []⟩ = pure (ps.zip us)
structure FunE (K : PySem.W.Frag) (x qual : Str) (st : Stmt) (dvs : List V) (f : Addr) (fd : FuncData) : Prop where
  d : FunD K x qual (defArgs st) (defBody st) (defScope st) dvs [] f fd
theorem FunE.kp {K : PySem.W.Frag} {x qual : Str} {st : Stmt} {dvs : List V} {f : Addr} {fd : FuncData} (F : FunE K x qual st dvs f fd) : PySem.W.keepIn K (.ref f) = true := F.d.kp
theorem FunE.ok {P : Program} {w : World} {K : PySem.W.Frag} {mg : Str → Option Value} {base : Heap} {x qual : Str} {st : Stmt} {dvs : List V} {f : Addr} {fd : FuncData} {N ps : List Str} {k : Nat} {sp : Sp} (F : FunE K x qual st dvs f fd) (S : FnScope N ps (defScope st)) (len : ∀ vs H Q E, sp vs H Q E → vs.length = ps.length)
    (hbody : ∀ (cdv : Value) (A : Around) (outer : List Env) (s : Shared) (H : Hp) (vs : List V) (Q : VK) (E : XK), Room k (A.deeper (envOfC qual (defScope st) s.heap.objs.size f cdv)) → sp vs H Q E →
      ∃ t, PSs (cxOf CX0 P w K mg base N qual (defScope st) f cdv A outer s H E).nox (defBody st) t ∧ t { nx := fun _ H' => Q .non H', rt := Q } (start N vs) H) : FnOk P w K mg base CX0 (k + 1) f fd ps sp :=
  F.d.ok S len fun cdv A outer s H vs Q E hr hsp => by
    obtain ⟨t, h, q⟩ := hbody cdv A outer s H vs Q E hr hsp
    exact ⟨t, h.nox, q⟩
structure DefAtD (K : PySem.W.Frag) (mg : Str → Option Value) (name : Str) (st : Stmt) (ps : List Str) (dvs : List V) where
  f : Addr
  fd : FuncData
  F : FunE K name name st dvs f fd
  g : mg name = some (.ref f)
  b : Binds K fd ps []
  bD : ∃ ds, Vals dvs ds ∧ Binds K fd ps ds
theorem DefAt.b {K : PySem.W.Frag} {mg : Str → Option Value} {n : Str} {st : Stmt} {ps : List Str} (D : DefAt K mg n st ps) : Binds K D.fd ps [] := .all D.bd
theorem DefAt.bind1 {K : PySem.W.Frag} {mg : Str → Option Value} {n x : Str} {st : Stmt} (D : DefAt K mg n st [x]) (s : Shared) (v : Value) : BindsTo s D.fd ⟨[v], []⟩ [(x, v)] := .of_eq (D.bd [v] rfl)
theorem Room.units0 {k : Nat} {A : Around} (hr : Room k A) : A.units + 1 < cLine := hu_of hr
abbrev s_init : Stmt := match topS 8 with
  | .ClassDef _ _ _ b _ _ _ _ _ _ _ => b.getD 0 (.Pass ⟨0, 0, 0, 0⟩)
  | s => s
structure InitAt (K : PySem.W.Frag) where
  f : Addr
  fd : FuncData
  F : Fun K "__init__" "Refused.__init__" s_init f fd
  ti : PySem.W.typeIn K (.ref f) = some (.type "function")
  bd : ∀ us : List Value, us.length = 2 → bindArgs fd ⟨us, []⟩ = pure ((["self", "what"] : List Str).zip us)
theorem InitAt.b {K : PySem.W.Frag} (D : InitAt K) : Binds K D.fd ["self", "what"] [] := .all D.bd
structure Tx (K : PySem.W.Frag) (mg : Str → Option Value) where
  whole : DefAt K mg "whole" s_whole ["thing"]
  whole_within : DefAt K mg "whole_within" s_whole_within ["thing", "low", "high"]
  tuple_within : DefAt K mg "tuple_within" s_tuple_within ["thing", "low", "high"]
  first_rows : DefAtD K mg "first_rows" s_first_rows ["states", "start"] [.int 0]
  by_meeting : DefAt K mg "by_meeting" s_by_meeting ["states"]
  least_states : DefAt K mg "least_states" s_least_states ["states"]
  made_book : DefAt K mg "made_book" s_made_book ["thing"]
  is_book : DefAt K mg "is_book" s_is_book ["thing"]
  trimmed : DefAt K mg "trimmed" s_trimmed ["thing"]
  check_form : DefAt K mg "check_form" s_check_form ["thing"]
  has_state_form : DefAt K mg "has_state_form" s_has_state_form ["thing", "many"]
  least_book : DefAt K mg "least_book" s_least_book ["book"]
  alike : DefAt K mg "alike" s_alike ["one", "two"]
  part_row : DefAt K mg "part_row" s_part_row ["one", "two"]
  within : DefAt K mg "within" s_within ["one", "two"]
  met_pairs : DefAt K mg "met_pairs" s_met_pairs ["one", "two"]
  law_pool : DefAt K mg "_law_pool" s_law_pool ["script"]
  law_draw : DefAt K mg "_law_draw" s_law_draw ["pool", "many"]
  law_pick : DefAt K mg "_law_pick" s_law_pick ["pool", "things"]
  law_turned : DefAt K mg "_law_turned" s_law_turned ["pool", "many"]
  law_book_meeting : DefAt K mg "_law_book_meeting" s_law_book_meeting ["moves"]
  law_book_messages : DefAt K mg "_law_book_messages" s_law_book_messages ["pool", "count"]
  law_book_drawn : DefAt K mg "_law_book_drawn" s_law_book_drawn ["pool", "states", "most"]
  law_book_next : DefAt K mg "_law_book_next" s_law_book_next ["book", "state", "message"]
  law_book_renamed : DefAt K mg "_law_book_renamed" s_law_book_renamed ["pool", "book"]
  law_book_copied : DefAt K mg "_law_book_copied" s_law_book_copied ["pool", "book", "states"]
  law_apart : DefAt K mg "_law_apart" s_law_apart ["one", "two"]
  law_unlike_states : DefAt K mg "_law_unlike_states" s_law_unlike_states ["book"]
  law_least_right : DefAt K mg "_law_least_right" s_law_least_right ["book"]
  law_two_right : DefAt K mg "_law_two_right" s_law_two_right ["one", "two"]
  law_led_elsewhere : DefAt K mg "_law_led_elsewhere" s_law_led_elsewhere ["pool", "book"]
  law : DefAt K mg "law" s_law ["script"]
  init : InitAt K
  x_BadBook : ExcC K mg "BadBook" init.f
  x_Stray : ExcC K mg "Stray" init.f
  r_Refused : RefC K mg "Refused"
  q_BadBook : PySem.W.subIn K (.ref x_BadBook.C) (.ref r_Refused.C) = some true
  v_BadBook : PySem.W.subIn K (.ref x_BadBook.C) (.type "ValueError") = some true
  q_Stray : PySem.W.subIn K (.ref x_Stray.C) (.ref r_Refused.C) = some true
  v_Stray : PySem.W.subIn K (.ref x_Stray.C) (.type "ValueError") = some true
  n_isinstance : mg "isinstance" = none
  n_int : mg "int" = none
  n_bool : mg "bool" = none
  n_tuple : mg "tuple" = none
  n_len : mg "len" = none
  n_list : mg "list" = none
  n_enumerate : mg "enumerate" = none
  n_range : mg "range" = none
  n_min : mg "min" = none
  n_dict : mg "dict" = none
  n_sorted : mg "sorted" = none
  n_set : mg "set" = none
  n_zip : mg "zip" = none
  n_repr : mg "repr" = none
  c_MOST_STATES : ∃ t, mg "MOST_STATES" = some (.int 8 t)
  c_MOST_MESSAGES : ∃ t, mg "MOST_MESSAGES" = some (.int 5 t)
  c_GREATEST_MESSAGE : ∃ t, mg "GREATEST_MESSAGE" = some (.int 99 t)
end Nv
set_option Elab.async false
set_option linter.all false
set_option maxRecDepth 100000
namespace Nv
open PySem PySem.Spec PyProof.Rows L2
/-! ### what stays -/
/-- all that was tracked is as it was, but for the addresses of L -/
def Ext (L : List Addr) (H H' : Hp) : Prop := ∀ b o, b ∉ L → H b = some o → H' b = some o
theorem Ext.refl {L : List Addr} {H : Hp} : Ext L H H := fun _ _ _ e => e
theorem Ext.trans {L : List Addr} {H H1 H2 : Hp} (a : Ext L H H1) (b : Ext L H1 H2) : Ext L H H2 := fun c o n e => b c o n (a c o n e)
theorem Ext.mono {L M : List Addr} {H H' : Hp} (a : Ext L H H') (s : ∀ x ∈ L, x ∈ M) : Ext M H H' := fun c o n e => a c o (fun z => n (s c z)) e
theorem Ext.weak {L : List Addr} {H H' : Hp} (a : Ext [] H H') : Ext L H H' := a.mono fun x z => nomatch z
theorem Ext.same {L : List Addr} {H H' : Hp} (a : Same H H') : Ext L H H' := fun c o _ e => a c o e
theorem Ext.toSame {H H' : Hp} (a : Ext [] H H') : Same H H' := fun c o e => a c o (by simp) e
theorem Ext.new {L : List Addr} {H : Hp} {p : Addr} {o : HO} (h : H p = none) : Ext L H (upd H p o) := fun b u _ e => by
  rw [upd_ne (ne_of_none e h)]
  exact e
theorem Ext.wr {L : List Addr} {H : Hp} {p : Addr} {o : HO} (h : p ∈ L) : Ext L H (upd H p o) := fun b u n e => by
  rw [upd_ne (fun z => n (by rw [z]; exact h))]
  exact e
theorem Ext.at {L : List Addr} {H H' : Hp} {p : Addr} {o : HO} (a : Ext L H H') (h : H p = some o) (n : p ∉ L) : H' p = some o := a p o n h
theorem Ext.free {H H' : Hp} {p : Addr} (a : Ext [] H H') (h : H' p = none) : H p = none := a.toSame.free h
/-- drop an address that was free -/
theorem Ext.drop {L : List Addr} {H H' : Hp} {p : Addr} (a : Ext (p :: L) H H') (h : H p = none) : Ext L H H' := fun b o n e => a b o (fun z => by
  rcases List.mem_cons.mp z with z | z
  · exact ne_of_none e h z
  · exact n z) e
theorem Ext.drop2 {L : List Addr} {H H1 H' : Hp} {p : Addr} (s : Ext [] H H1) (a : Ext (p :: L) H1 H') (h : H p = none) : Ext L H H' := Ext.drop ((s.weak).trans a) h
/-- at these addresses stand no tuples -/
def Lsts (L : List Addr) (H : Hp) : Prop := ∀ l ∈ L, ∃ o, H l = some o ∧ (∀ xs, o ≠ .tup xs) ∧ ∀ ob u, o ≠ .frz ob u
theorem Lsts.nil {H : Hp} : Lsts [] H := fun _ z => nomatch z
theorem Lsts.not {L : List Addr} {H : Hp} (l : Lsts L H) {a : Addr} {xs : List V} (h : H a = some (.tup xs)) : a ∉ L := fun z => by
  obtain ⟨o, e, n, _⟩ := l a z
  rw [h] at e
  exact n xs (Option.some.inj e).symm
theorem Lsts.notF {L : List Addr} {H : Hp} (l : Lsts L H) {a : Addr} {ob : Obj} {u : HO} (h : H a = some (.frz ob u)) : a ∉ L := fun z => by
  obtain ⟨o, e, _, n⟩ := l a z
  rw [h] at e
  exact n ob u (Option.some.inj e).symm
theorem Ext.tup {L : List Addr} {H H' : Hp} {K : PySem.W.Frag} {a : Addr} {xs : List V} (e : Ext L H H') (l : Lsts L H) (h : SqT K H a xs) : SqT K H' a xs := by
  rcases h with (h | ⟨o, h⟩) | h
  · exact .inl (.inl (e _ _ (l.not h) h))
  · exact .inl (.inr ⟨o, e _ _ (l.notF h) h⟩)
  · exact .inr h
theorem Ext.tz {L : List Addr} {H H' : Hp} {a : Addr} {xs : List V} (e : Ext L H H') (l : Lsts L H) (h : TupZ H a xs) : TupZ H' a xs := by
  obtain ⟨o, h, d⟩ := h
  exact ⟨o, e _ _ (l.notF h) h, d⟩
theorem Ext.frz {L : List Addr} {H H' : Hp} {K : PySem.W.Frag} {a : Addr} {xs : List V} (e : Ext L H H') (n : a ∉ L) (h : SqL K H a xs) : SqL K H' a xs := by
  rcases h with (h | ⟨o, h⟩) | h
  · exact .inl (.inl (e _ _ n h))
  · exact .inl (.inr ⟨o, e _ _ n h⟩)
  · exact .inr h
theorem two_lsts {p l : Addr} {H : Hp} {xs ys : List V} (h1 : H p = some (.lst xs)) (h2 : H l = some (.lst ys)) : Lsts [p, l] H := fun a z => by
  rcases List.mem_cons.mp z with z | z
  · exact ⟨.lst xs, by rw [z]; exact h1, fun _ q => (nomatch q), fun _ _ q => (nomatch q)⟩
  · exact ⟨.lst ys, by rw [List.mem_singleton.mp z]; exact h2, fun _ q => (nomatch q), fun _ _ q => (nomatch q)⟩
theorem one_lst {p : Addr} {H : Hp} {xs : List V} (h1 : H p = some (.lst xs)) : Lsts [p] H := fun a z => ⟨.lst xs, by rw [List.mem_singleton.mp z]; exact h1, fun _ q => (nomatch q), fun _ _ q => (nomatch q)⟩
theorem one_dk {p : Addr} {H : Hp} {xs : List (Key × V)} (h1 : H p = some (.dK xs)) : Lsts [p] H := fun a z => ⟨.dK xs, by rw [List.mem_singleton.mp z]; exact h1, fun _ q => (nomatch q), fun _ _ q => (nomatch q)⟩
theorem one_tbl {p : Addr} {H : Hp} {xs : Array Value} (h1 : H p = some (.tbl xs)) : Lsts [p] H := fun a z => ⟨.tbl xs, by rw [List.mem_singleton.mp z]; exact h1, fun _ q => (nomatch q), fun _ _ q => (nomatch q)⟩
/-! ### a word between an expression and what follows -/
def tMid (t : TE) : TE := fun σ H Q => ∃ M : VK, t σ H M ∧ ∀ v H', M v H' → Q v H'
theorem pe_mid {X : Cx} {e : Expr} {t : TE} (h : PE X e t) : PE X e (tMid t) := ⟨fun pins s σ H Q I ⟨M, h1, h2⟩ => thn (h.run pins s σ H M I h1) fun u s' ⟨v, H', I', r, m⟩ => ⟨v, H', I', r, h2 v H' m⟩⟩
def tMidT (t : TT) : TT := fun σ H Q => ∃ M : Bool → Hp → Prop, t σ H M ∧ ∀ v H', M v H' → Q v H'
theorem pt_mid {X : Cx} {e : Expr} {t : TT} (h : PT X e t) : PT X e (tMidT t) := ⟨fun pins s σ H Q I ⟨M, h1, h2⟩ => thn (h.run pins s σ H M I h1) fun u s' ⟨H', I', m⟩ => ⟨H', I', h2 _ H' m⟩⟩
/-! ### data: ints -/
theorem ints_lay : ∀ ns : List Int, PyData.canLayAll0 (ns.map PyData.int) = true
  | [] => rfl
  | n :: r => by simp [PyData.canLayAll0, PyData.canLay0, ints_lay r]
theorem ints_depth : ∀ ns : List Int, PyData.depthAll (ns.map PyData.int) = 0
  | [] => rfl
  | n :: r => by simp [PyData.depthAll, PyData.depth, ints_depth r]
theorem ints_show : ∀ ns : List Int, (∀ n ∈ ns, 0 ≤ n ∧ n < 1000) → PyData.showableAll (ns.map PyData.int) = true
  | [], _ => rfl
  | n :: r, h => by
    have h1 := h n (by simp)
    have h2 : n.natAbs.log2 < 1920 := Nat.lt_of_le_of_lt (Nat.log2_le_self _) (by omega)
    simp [PyData.showableAll, PyData.showable, ints_show r fun m hm => h m (by simp [hm]), h2]
theorem ints_nodict : ∀ ns : List Int, PyData.hasDictAll (ns.map PyData.int) = false
  | [] => rfl
  | n :: r => by simp [PyData.hasDictAll, PyData.hasDict, ints_nodict r]
theorem ints_eqv : ∀ ns ms : List Int, PyData.eqvAll (ns.map PyData.int) (ms.map PyData.int) = decide (ns = ms)
  | [], [] => by simp [PyData.eqvAll]
  | [], m :: q => by simp [PyData.eqvAll]
  | n :: r, [] => by simp [PyData.eqvAll]
  | n :: r, m :: q => by
    simp only [List.map_cons, PyData.eqvAll, PyData.eqv, ints_eqv r q, List.cons.injEq]
    by_cases h : n = m <;> simp [h]
theorem dp_ints {K : PySem.W.Frag} {H : Hp} : ∀ (ns : List Int), DpAll K H (ns.map V.int) (ns.map PyData.int)
  | [] => .nil
  | n :: r => .cons (.int n) (dp_ints r)
theorem shaped_ints (ns : List Int) : SeqAt.shaped (.list (ns.map PyData.int)) = true := by simp [SeqAt.shaped, PyData.canLay0, ints_lay, PyData.depth, ints_depth]
theorem shaped_intsT (ns : List Int) : SeqAt.shaped (.tuple (ns.map PyData.int)) = true := by simp [SeqAt.shaped, PyData.canLay0, ints_lay, PyData.depth, ints_depth]
theorem eqv_nil {ns : List Int} : PyData.eqv (.list (ns.map PyData.int)) (.list []) = decide (ns = []) := by
  have h := ints_eqv ns []
  simpa [PyData.eqv] using h
/-! ### books -/
abbrev State := List (Nat × Nat)
abbrev Book := List State
def MvV (K : PySem.W.Frag) (H : Hp) (p : Addr) (m : Nat × Nat) : Prop := SqT K H p [.int m.1, .int m.2]
def StV (K : PySem.W.Frag) (H : Hp) (v : V) (s : State) : Prop := ∃ (a : Addr) (ps : List Addr), v = .ref a ∧ TupZ H a (ps.map V.ref) ∧ Paired (MvV K H) ps s
def BkV (K : PySem.W.Frag) (H : Hp) (v : V) (b : Book) : Prop := ∃ (a : Addr) (vs : List V), v = .ref a ∧ SqT K H a vs ∧ Paired (StV K H) vs b
theorem Paired.imp {α β : Type} {F G : α → β → Prop} : ∀ {l₁ : List α} {l₂ : List β}, Paired F l₁ l₂ → (∀ a b, F a b → G a b) → Paired G l₁ l₂
  | _, _, .nil, _ => .nil
  | _, _, .cons r t, f => .cons (f _ _ r) (Paired.imp t f)
theorem Paired.get {α β : Type} {F : α → β → Prop} : ∀ {l₁ : List α} {l₂ : List β} {i : Nat} {b : β}, Paired F l₁ l₂ → l₂[i]? = some b → ∃ a, l₁[i]? = some a ∧ F a b
  | _, _, _, _, .nil, e => by simp at e
  | _, _, 0, _, .cons r _, e => by cases e; exact ⟨_, rfl, r⟩
  | _, _, i + 1, _, .cons _ t, e => by
    obtain ⟨a, e1, e2⟩ := Paired.get (i := i) t (by simpa using e)
    exact ⟨a, by simpa using e1, e2⟩
theorem Paired.get' {α β : Type} {F : α → β → Prop} : ∀ {l₁ : List α} {l₂ : List β} {i : Nat} {a : α}, Paired F l₁ l₂ → l₁[i]? = some a → ∃ b, l₂[i]? = some b ∧ F a b
  | _, _, _, _, .nil, e => by simp at e
  | _, _, 0, _, .cons r _, e => by cases e; exact ⟨_, rfl, r⟩
  | _, _, i + 1, _, .cons _ t, e => by
    obtain ⟨a, e1, e2⟩ := Paired.get' (i := i) t (by simpa using e)
    exact ⟨a, by simpa using e1, e2⟩
theorem Paired.len {α β : Type} {F : α → β → Prop} : ∀ {l₁ : List α} {l₂ : List β}, Paired F l₁ l₂ → l₁.length = l₂.length
  | _, _, .nil => rfl
  | _, _, .cons _ t => by rw [List.length_cons, List.length_cons, Paired.len t]
theorem Paired.snoc {α β : Type} {F : α → β → Prop} {a : α} {b : β} (h : F a b) : ∀ {l₁ : List α} {l₂ : List β}, Paired F l₁ l₂ → Paired F (l₁ ++ [a]) (l₂ ++ [b])
  | _, _, .nil => .cons h .nil
  | _, _, .cons r t => .cons r (Paired.snoc h t)
theorem StV.ext {L : List Addr} {H H' : Hp} {K : PySem.W.Frag} {v : V} {s : State} (e : Ext L H H') (l : Lsts L H) (h : StV K H v s) : StV K H' v s := by
  obtain ⟨a, ps, rfl, h1, h2⟩ := h
  exact ⟨a, ps, rfl, e.tz l h1, Paired.imp h2 fun _ _ q => e.tup l q⟩
theorem BkV.ext {L : List Addr} {H H' : Hp} {K : PySem.W.Frag} {v : V} {b : Book} (e : Ext L H H') (l : Lsts L H) (h : BkV K H v b) : BkV K H' v b := by
  obtain ⟨a, vs, rfl, h1, h2⟩ := h
  exact ⟨a, vs, rfl, e.tup l h1, Paired.imp h2 fun _ _ q => q.ext e l⟩
theorem BkV.ext0 {H H' : Hp} {K : PySem.W.Frag} {v : V} {b : Book} (h : BkV K H v b) (e : Ext [] H H') : BkV K H' v b := h.ext e Lsts.nil
theorem StV.ext0 {H H' : Hp} {K : PySem.W.Frag} {v : V} {s : State} (h : StV K H v s) (e : Ext [] H H') : StV K H' v s := h.ext e Lsts.nil
/-- values -/
theorem atN {xs : List V} {i : Nat} {v : V} (h : xs[i]? = some v) : atI xs (i : Int) = some v := atI_nat h
abbrev nV (n : Nat) : V := .int (n : Int)
theorem map_at {α : Type} {f : α → V} {xs : List α} {i : Nat} {y : V} (h : (xs.map f)[i]? = some y) : ∃ x, xs[i]? = some x ∧ y = f x := by
  rw [List.getElem?_map] at h
  cases e : xs[i]? with
  | none => rw [e] at h; cases h
  | some x => rw [e] at h; exact ⟨x, rfl, (Option.some.inj h).symm⟩
theorem at_map {α : Type} {f : α → V} {xs : List α} {i : Nat} {x : α} (h : xs[i]? = some x) : (xs.map f)[i]? = some (f x) := by rw [List.getElem?_map, h]; rfl
theorem dec_int {a b : Int} : decide (V.int a = V.int b) = decide (a = b) := by
  by_cases h : a = b
  · subst h; simp
  · rw [decide_eq_false h, decide_eq_false fun e => h (V.int.inj e)]
theorem ifB {b : Bool} {A B : Prop} (h1 : b = true → A) (h2 : b = false → B) : if b = true then A else B := by
  cases b
  · exact iteF (h2 rfl)
  · exact iteT (h1 rfl)
theorem flat_nV (F : List Nat) : (F.map nV).all flatV = true := by
  rw [List.all_eq_true]
  intro v hv
  obtain ⟨n, _, rfl⟩ := List.mem_map.mp hv
  rfl
theorem eqV_nV (a b : Nat) : eqV (nV a) (nV b) = decide (a = b) := by
  unfold nV eqV
  by_cases h : a = b
  · subst h; simp
  · have h2 : ¬ ((a : Int) = (b : Int)) := fun e => h (by omega)
    simp [h, h2]
theorem inV_nV (t : Nat) (F : List Nat) : inV (nV t) (F.map nV) = decide (t ∈ F) := by
  unfold inV
  rw [List.any_map]
  by_cases h : t ∈ F
  · rw [decide_eq_true h, List.any_eq_true]
    exact ⟨t, h, by simp [eqV_nV]⟩
  · rw [decide_eq_false h, List.any_eq_false]
    intro x hx
    simp only [Function.comp, eqV_nV, decide_eq_true_eq]
    exact fun e => h (e ▸ hx)
/-- lists of moves that are not closed yet -/
def LsV (K : PySem.W.Frag) (H : Hp) (v : V) (s : State) : Prop := ∃ (a : Addr) (ps : List Addr), v = .ref a ∧ H a = some (.lst (ps.map V.ref)) ∧ Paired (MvV K H) ps s
def LbV (K : PySem.W.Frag) (H : Hp) (v : V) (b : Book) : Prop := ∃ (a : Addr) (vs : List V), v = .ref a ∧ H a = some (.lst vs) ∧ Paired (LsV K H) vs b
theorem LsV.ext0 {H H' : Hp} {K : PySem.W.Frag} {v : V} {s : State} (h : LsV K H v s) (e : Ext [] H H') : LsV K H' v s := by
  obtain ⟨a, ps, rfl, h1, h2⟩ := h
  exact ⟨a, ps, rfl, e.at h1 (by simp), Paired.imp h2 fun _ _ q => e.tup Lsts.nil q⟩
theorem LbV.ext0 {H H' : Hp} {K : PySem.W.Frag} {v : V} {b : Book} (h : LbV K H v b) (e : Ext [] H H') : LbV K H' v b := by
  obtain ⟨a, ps, rfl, h1, h2⟩ := h
  exact ⟨a, ps, rfl, e.at h1 (by simp), Paired.imp h2 fun _ _ q => q.ext0 e⟩
theorem MvV.ext0 {H H' : Hp} {K : PySem.W.Frag} {p : Addr} {m : Nat × Nat} (h : MvV K H p m) (e : Ext [] H H') : MvV K H' p m := e.tup Lsts.nil h
/-- a list that was made behind H may be written -/
theorem Ext.put {H H' : Hp} {p : Addr} {o : HO} (e : Ext [] H H') (h : H p = none) : Ext [] H (upd H' p o) := Ext.drop (e.weak.trans (.wr (by simp))) h
theorem Ext.put' {L : List Addr} {H H' : Hp} {p : Addr} {o : HO} (e : Ext L H H') (h : H p = none) : Ext L H (upd H' p o) := Ext.drop ((e.mono fun x z => List.mem_cons_of_mem _ z).trans (.wr (by simp))) h
theorem Ext.put2 {L : List Addr} {H H' : Hp} {p : Addr} {o : HO} (e : Ext L H H') (h : H' p = none) : Ext L H (upd H' p o) := e.trans (.new h)
theorem StV.put {H : Hp} {K : PySem.W.Frag} {v : V} {s : State} {p : Addr} {xs ys : List V} (h : StV K H v s) (hp : H p = some (.lst xs)) : StV K (upd H p (.lst ys)) v s := h.ext (L := [p]) (.wr (by simp)) (one_lst hp)
theorem MvV.put {H : Hp} {K : PySem.W.Frag} {q : Addr} {m : Nat × Nat} {p : Addr} {xs ys : List V} (h : MvV K H q m) (hp : H p = some (.lst xs)) : MvV K (upd H p (.lst ys)) q m := Ext.tup (L := [p]) (.wr (by simp)) (one_lst hp) h
theorem yes {σ : L2.St} {H : Hp} {A B : Hp → Prop} (h : A H) : tYes σ H (fun b H3 => if b = true then A H3 else B H3) := by
  show if true = true then A H else B H
  exact iteT h
theorem Ext.free2 {L : List Addr} {H H' : Hp} {x : Addr} (e : Ext L H H') (h : H' x = none) (n : x ∉ L) : H x = none := by
  cases q : H x with
  | none => rfl
  | some o =>
    rw [e x o n q] at h
    cases h
theorem eraseIdx_nV {α β : Type} (f : α → β) : ∀ (L : List α) (k : Nat), (L.map f).eraseIdx k = (L.eraseIdx k).map f
  | [], _ => rfl
  | _ :: _, 0 => rfl
  | a :: r, k + 1 => by simp [eraseIdx_nV f r k]
theorem off2 {p l x : Addr} (a : x ≠ p) (b : x ≠ l) : x ∉ [p, l] := fun z => by
  rcases List.mem_cons.mp z with z | z
  · exact a z
  · exact b (List.mem_singleton.mp z)
/-- such a list, not at one of these addresses -/
def LsN (K : PySem.W.Frag) (H : Hp) (X : List Addr) (v : V) (s : State) : Prop := ∃ (a : Addr) (ps : List Addr), v = .ref a ∧ a ∉ X ∧ H a = some (.lst (ps.map V.ref)) ∧ Paired (MvV K H) ps s
theorem LsN.ls {K : PySem.W.Frag} {H : Hp} {X : List Addr} {v : V} {s : State} (h : LsN K H X v s) : LsV K H v s := by
  obtain ⟨a, ps, e, _, h1, h2⟩ := h
  exact ⟨a, ps, e, h1, h2⟩
theorem LsN.ext {K : PySem.W.Frag} {H H' : Hp} {X Y : List Addr} {v : V} {s : State} (h : LsN K H X v s) (e : Ext Y H H') (yx : ∀ y ∈ Y, y ∈ X) (l : Lsts Y H) : LsN K H' X v s := by
  obtain ⟨a, ps, ea, n, h1, h2⟩ := h
  exact ⟨a, ps, ea, n, e _ _ (fun z => n (yx a z)) h1, Paired.imp h2 fun _ _ q => e.tup l q⟩
def mvD (q : Nat × Nat) : PyData := .tuple [.int (q.1 : Int), .int (q.2 : Int)]
theorem dp_mvs {K : PySem.W.Frag} {H : Hp} : ∀ {ps : List Addr} {s : State}, Paired (MvV K H) ps s → DpAll K H (ps.map V.ref) (s.map mvD)
  | _, _, .nil => .nil
  | _, _, .cons r t => .cons (.tup r (.cons (.int _) (.cons (.int _) .nil))) (dp_mvs t)
theorem mvs_lay : ∀ s : State, PyData.canLayAll0 (s.map mvD) = true
  | [] => rfl
  | q :: r => by simp [PyData.canLayAll0, PyData.canLay0, mvs_lay r, mvD]
theorem mvs_depth : ∀ s : State, PyData.depthAll (s.map mvD) ≤ 1
  | [] => by simp [PyData.depthAll]
  | q :: r => by
    have := mvs_depth r
    simp [PyData.depthAll, PyData.depth, mvD]
    omega
theorem shaped_mvs (s : State) : SeqAt.shaped (.list (s.map mvD)) = true := by
  have := mvs_depth s
  simp [SeqAt.shaped, PyData.canLay0, mvs_lay, PyData.depth]
  omega
theorem eqv_mvs_nil (s : State) : PyData.eqv (.list (s.map mvD)) (.list []) = decide (s = []) := by
  cases s <;> simp [PyData.eqv, PyData.eqvAll]
theorem ixNat {k n : Nat} (h : k < n) : ixN n (k : Int) = some k := by
  unfold ixN
  rw [if_pos (by omega), if_pos (by omega)]
  simp
theorem Paired.set {α β : Type} {F : α → β → Prop} {a : α} {b : β} (h : F a b) : ∀ {l₁ : List α} {l₂ : List β} (k : Nat), Paired F l₁ l₂ → Paired F (l₁.set k a) (l₂.set k b)
  | _, _, _, .nil => .nil
  | _, _, 0, .cons _ t => .cons h t
  | _, _, k + 1, .cons r t => .cons r (Paired.set h k t)
/-- the keys of a dict -/
abbrev kN (n : Nat) : Key := Sum.inl (n : Int)
theorem valV_key {kvs : List (Key × V)} {F : List Nat} (h : kvs.map (·.1) = F.map kN) (n : Nat) : (valV kvs (kN n)).isSome = decide (n ∈ F) := by
  rw [← valV_any]
  have e : (kvs.any fun kv => decide (kv.1 = kN n)) = ((kvs.map (·.1)).any fun k => decide (k = kN n)) := by rw [List.any_map]; rfl
  rw [e, h, List.any_map]
  by_cases m : n ∈ F
  · rw [decide_eq_true m, List.any_eq_true]
    exact ⟨n, m, by simp⟩
  · rw [decide_eq_false m, List.any_eq_false]
    intro x hx
    simp only [Function.comp, decide_eq_true_eq]
    intro e
    have e2 : (x : Int) = (n : Int) := Sum.inl.inj e
    exact m (by rw [show n = x by omega]; exact hx)
theorem valV_mem {kvs : List (Key × V)} {k : Key} {v : V} (h : valV kvs k = some v) : (k, v) ∈ kvs := by
  unfold valV at h
  cases e : kvs.find? (fun kv => decide (kv.1 = k)) with
  | none => rw [e] at h; cases h
  | some p =>
    rw [e] at h
    cases h
    have h1 := List.mem_of_find?_eq_some e
    have h2 := List.find?_some e
    simp at h2
    rw [← h2]
    exact h1
/-! ### books whose states are any tuples -/
def StW (K : PySem.W.Frag) (H : Hp) (v : V) (s : State) : Prop := ∃ (a : Addr) (ps : List Addr), v = .ref a ∧ SqT K H a (ps.map V.ref) ∧ Paired (MvV K H) ps s
def BkW (K : PySem.W.Frag) (H : Hp) (v : V) (b : Book) : Prop := ∃ (a : Addr) (vs : List V), v = .ref a ∧ SqT K H a vs ∧ Paired (StW K H) vs b
theorem BkV.wk {K : PySem.W.Frag} {H : Hp} {v : V} {b : Book} (h : BkV K H v b) : BkW K H v b := by
  obtain ⟨a, vs, rfl, h1, h2⟩ := h
  exact ⟨a, vs, rfl, h1, Paired.imp h2 fun _ _ z => by obtain ⟨c, ps, rfl, h3, h4⟩ := z; exact ⟨c, ps, rfl, h3.sq, h4⟩⟩
theorem BkW.ext {L : List Addr} {H H' : Hp} {K : PySem.W.Frag} {v : V} {b : Book} (e : Ext L H H') (l : Lsts L H) (h : BkW K H v b) : BkW K H' v b := by
  obtain ⟨a, vs, rfl, h1, h2⟩ := h
  exact ⟨a, vs, rfl, e.tup l h1, Paired.imp h2 fun _ _ z => by obtain ⟨c, ps, rfl, h3, h4⟩ := z; exact ⟨c, ps, rfl, e.tup l h3, Paired.imp h4 fun _ _ q => e.tup l q⟩⟩
theorem BkW.ext0 {H H' : Hp} {K : PySem.W.Frag} {v : V} {b : Book} (h : BkW K H v b) (e : Ext [] H H') : BkW K H' v b := h.ext e Lsts.nil
end Nv
set_option linter.all false
namespace Nv
/-! ### books: the mathematics -/
def mvs (b : Book) (s : Nat) : State := b.getD s []
inductive Rch (b : Book) : Nat → Prop
  | zero : Rch b 0
  | step {s : Nat} {p : Nat × Nat} : Rch b s → p ∈ mvs b s → Rch b p.2
/-- a state's form, of a book with n states -/
structure StOk (n : Nat) (s : State) : Prop where
  few : s.length ≤ 5
  rise : (s.map (·.1)).Pairwise (· < ·)
  msg : ∀ p ∈ s, p.1 ≤ 99
  to : ∀ p ∈ s, p.2 < n
/-- the form of a book -/
structure FormB (b : Book) : Prop where
  one : 1 ≤ b.length
  eight : b.length ≤ 8
  st : ∀ s ∈ b, StOk b.length s
structure OkB (b : Book) : Prop extends FormB b where
  reach : ∀ s, s < b.length → Rch b s
theorem mvs_of {b : Book} {s : Nat} {x : State} (h : b[s]? = some x) : mvs b s = x := by
  unfold mvs
  rw [List.getD_eq_getElem?_getD, h]
  rfl
theorem mvs_lt {b : Book} {s : Nat} (h : s < b.length) : b[s]? = some (mvs b s) := by
  rw [mvs_of (List.getElem?_eq_getElem h)]
  exact List.getElem?_eq_getElem h
theorem mvs_mem {b : Book} {s : Nat} (h : s < b.length) : mvs b s ∈ b := List.mem_of_getElem? (mvs_lt h)
theorem mvs_out {b : Book} {s : Nat} (h : b.length ≤ s) : mvs b s = [] := by
  unfold mvs
  rw [List.getD_eq_getElem?_getD, List.getElem?_eq_none h]
  rfl
theorem FormB.ok {b : Book} (h : FormB b) {s : Nat} (hs : s < b.length) : StOk b.length (mvs b s) := h.st _ (mvs_mem hs)
theorem FormB.to {b : Book} (h : FormB b) {s : Nat} {p : Nat × Nat} (hp : p ∈ mvs b s) : p.2 < b.length := by
  by_cases hs : s < b.length
  · exact (h.ok hs).to p hp
  · rw [mvs_out (by omega)] at hp
    cases hp
/-- what meeting finds: F the states in their order -/
structure Met (b : Book) (F : List Nat) : Prop where
  nd : F.Nodup
  zero : F[0]? = some 0
  lt : ∀ s ∈ F, s < b.length
  cl : ∀ s ∈ F, ∀ p ∈ mvs b s, p.2 ∈ F
  from_ : ∀ j s, F[j]? = some s → j ≠ 0 → ∃ i s', i < j ∧ F[i]? = some s' ∧ ∃ p ∈ mvs b s', p.2 = s
def rename (b : Book) (F : List Nat) : Book := F.map fun s => (mvs b s).map fun p => (p.1, F.idxOf p.2)
theorem rename_len {b : Book} {F : List Nat} : (rename b F).length = F.length := by simp [rename]
theorem rename_at {b : Book} {F : List Nat} {j s : Nat} (h : F[j]? = some s) : mvs (rename b F) j = (mvs b s).map fun p => (p.1, F.idxOf p.2) := by
  refine mvs_of ?_
  unfold rename
  rw [List.getElem?_map, h]
  rfl
theorem idx_of {F : List Nat} (nd : F.Nodup) {j s : Nat} (h : F[j]? = some s) : F.idxOf s = j := by
  obtain ⟨hj, e⟩ := List.getElem?_eq_some_iff.mp h
  rw [← e]
  exact List.Nodup.idxOf_getElem nd j hj
theorem nodup_le {n : Nat} {F : List Nat} (nd : F.Nodup) (lt : ∀ s ∈ F, s < n) : F.length ≤ n := by
  have h := (List.nodup_range (n := n))
  have : F ⊆ List.range n := fun s hs => List.mem_range.mpr (lt s hs)
  have := List.Nodup.length_le_of_subset nd this
  simpa using this
theorem Met.okB {b : Book} {F : List Nat} (m : Met b F) (h8 : b.length ≤ 8) (hs : ∀ s, s < b.length → (mvs b s).length ≤ 5 ∧ ((mvs b s).map (·.1)).Pairwise (· < ·) ∧ ∀ p ∈ mvs b s, p.1 ≤ 99) : OkB (rename b F) := by
  have h0 : 0 < F.length := (List.getElem?_eq_some_iff.mp m.zero).1
  have hle : F.length ≤ b.length := nodup_le m.nd m.lt
  refine { one := by rw [rename_len]; exact h0, eight := by rw [rename_len]; omega, st := fun x hx => ?_, reach := fun j hj => ?_ }
  · obtain ⟨s, hsF, rfl⟩ := List.mem_map.mp hx
    obtain ⟨a1, a2, a3⟩ := hs s (m.lt s hsF)
    refine ⟨by rw [List.length_map]; exact a1, ?_, fun p hp => ?_, fun p hp => ?_⟩
    · rw [List.map_map]
      exact a2
    · obtain ⟨q, hq, rfl⟩ := List.mem_map.mp hp
      exact a3 q hq
    · obtain ⟨q, hq, rfl⟩ := List.mem_map.mp hp
      rw [rename_len]
      exact List.idxOf_lt_length_of_mem (m.cl s hsF q hq)
  · rw [rename_len] at hj
    have key : ∀ n, ∀ j, j ≤ n → j < F.length → Rch (rename b F) j := by
      intro n
      induction n with
      | zero =>
        intro j h1 _
        have e : j = 0 := by omega
        rw [e]
        exact .zero
      | succ n ih =>
        intro j h1 h2
        by_cases e : j = 0
        · subst e; exact .zero
        · obtain ⟨i, s', hi, hs', p, hp, ep⟩ := m.from_ j F[j] (List.getElem?_eq_getElem h2) e
          have r := ih i (by omega) (by omega)
          have : (p.1, F.idxOf p.2) ∈ mvs (rename b F) i := by
            rw [rename_at hs']
            exact List.mem_map.mpr ⟨p, hp, rfl⟩
          have r2 := Rch.step r this
          have e2 : F.idxOf p.2 = j := idx_of m.nd (by rw [ep]; exact List.getElem?_eq_getElem h2)
          rw [e2] at r2
          exact r2
    exact key j j (Nat.le_refl _) hj
/-! ### meeting, step by step -/
structure MetI (b : Book) (F : List Nat) (i : Nat) : Prop where
  nd : F.Nodup
  zero : F[0]? = some 0
  lt : ∀ s ∈ F, s < b.length
  from_ : ∀ j s, F[j]? = some s → j ≠ 0 → ∃ i s', i < j ∧ F[i]? = some s' ∧ ∃ p ∈ mvs b s', p.2 = s
  le : i ≤ F.length
  cl : ∀ j s, j < i → F[j]? = some s → ∀ p ∈ mvs b s, p.2 ∈ F
structure MetW (b : Book) (F : List Nat) (i s k : Nat) : Prop extends MetI b F i where
  here : F[i]? = some s
  part : ∀ p ∈ (mvs b s).take k, p.2 ∈ F
theorem MetI.first {b : Book} (h : 1 ≤ b.length) : MetI b [0] 0 where
  nd := by simp
  zero := rfl
  lt := fun s hs => by simp at hs; omega
  from_ := fun j s h n => by
    have := (List.getElem?_eq_some_iff.mp h).1
    simp at this
    omega
  le := by simp
  cl := fun j s h => by omega
theorem MetI.begin {b : Book} {F : List Nat} {i s : Nat} (m : MetI b F i) (h : F[i]? = some s) : MetW b F i s 0 := { m with here := h, part := fun p hp => by simp at hp }
theorem MetW.skip {b : Book} {F : List Nat} {i s k : Nat} {p : Nat × Nat} (m : MetW b F i s k) (h : (mvs b s)[k]? = some p) (hp : p.2 ∈ F) : MetW b F i s (k + 1) := { m with
  part := fun q hq => by
    rw [List.take_add_one, h] at hq
    rcases List.mem_append.mp hq with hq | hq
    · exact m.part q hq
    · simp at hq
      rw [hq]
      exact hp }
theorem MetW.push {b : Book} {F : List Nat} {i s k : Nat} {p : Nat × Nat} (m : MetW b F i s k) (h : (mvs b s)[k]? = some p) (hp : p.2 ∉ F) (hb : p.2 < b.length) : MetW b (F ++ [p.2]) i s (k + 1) := by
  have old : ∀ {j x : Nat}, F[j]? = some x → (F ++ [p.2])[j]? = some x := fun {j x} e => by
    rw [List.getElem?_append_left (List.getElem?_eq_some_iff.mp e).1]
    exact e
  refine { nd := ?_, zero := old m.zero, lt := fun x hx => ?_, from_ := fun j x e n => ?_, le := ?_, cl := fun j x hj e q hq => ?_, here := old m.here, part := fun q hq => ?_ }
  · rw [List.nodup_append]
    refine ⟨m.nd, by simp, fun a ha c hc => ?_⟩
    simp at hc
    rw [hc]
    exact fun z => hp (z ▸ ha)
  · rcases List.mem_append.mp hx with hx | hx
    · exact m.lt x hx
    · simp at hx
      rw [hx]
      exact hb
  · by_cases hj : j < F.length
    · rw [List.getElem?_append_left hj] at e
      obtain ⟨i', s', h1, h2, h3⟩ := m.from_ j x e n
      exact ⟨i', s', h1, old h2, h3⟩
    · rw [List.getElem?_append_right (by omega)] at e
      have hz : j - F.length = 0 := by
        have := (List.getElem?_eq_some_iff.mp e).1
        simp at this
        omega
      rw [hz] at e
      cases e
      have hi := (List.getElem?_eq_some_iff.mp m.here).1
      exact ⟨i, s, by omega, old m.here, p, List.mem_of_getElem? h, rfl⟩
  · rw [List.length_append]
    have := m.le
    omega
  · have hjF : j < F.length := by
      have := m.le
      omega
    rw [List.getElem?_append_left hjF] at e
    exact List.mem_append_left _ (m.cl j x hj e q hq)
  · rw [List.take_add_one, h] at hq
    rcases List.mem_append.mp hq with hq | hq
    · exact List.mem_append_left _ (m.part q hq)
    · simp at hq
      rw [hq]
      simp
theorem MetW.done {b : Book} {F : List Nat} {i s k : Nat} (m : MetW b F i s k) (hk : (mvs b s).length ≤ k) : MetI b F (i + 1) := { m with
  le := (List.getElem?_eq_some_iff.mp m.here).1
  cl := fun j x hj e q hq => by
    by_cases hji : j < i
    · exact m.cl j x hji e q hq
    · have : j = i := by omega
      subst this
      rw [m.here] at e
      cases e
      exact m.part q (by rw [List.take_of_length_le hk]; exact hq) }
theorem MetI.met {b : Book} {F : List Nat} {i : Nat} (m : MetI b F i) (h : i = F.length ∨ i = b.length) : Met b F := { m with
  cl := fun s hs p hp => by
    obtain ⟨j, hj, e⟩ := List.mem_iff_getElem.mp hs
    have : F.length ≤ i := by
      rcases h with h | h
      · omega
      · rw [h]
        exact nodup_le m.nd m.lt
    exact m.cl j s (by omega) (by rw [List.getElem?_eq_getElem hj, e]) p hp }
end Nv
set_option Elab.async false
set_option linter.all false
set_option maxRecDepth 100000
namespace Nv
open PySem PySem.Spec PyProof.Rows L2
/-! ### the form of a book, of any data -/
def wholeD : PyData → Bool
  | .int _ => true
  | _ => false
def inD (d : PyData) (lo hi : Int) : Bool := match d with
  | .int i => decide (lo ≤ i ∧ i ≤ hi)
  | _ => false
def tupD (d : PyData) (lo hi : Int) : Bool := match d with
  | .tuple ds => decide (lo ≤ (ds.length : Int) ∧ (ds.length : Int) ≤ hi)
  | _ => false
/-- a move's form behind the message last: its message -/
def pairD (last n : Int) (d : PyData) : Option Int := match d with
  | .tuple [.int m, .int t] => if last + 1 ≤ m ∧ m ≤ 99 ∧ 0 ≤ t ∧ t ≤ n - 1 then some m else none
  | _ => none
def pairsD (last n : Int) : List PyData → Bool
  | [] => true
  | d :: r => match pairD last n d with
    | some m => pairsD m n r
    | none => false
def stateD (n : Int) (d : PyData) : Bool := match d with
  | .tuple ds => decide (ds.length ≤ 5) && pairsD (-1) n ds
  | _ => false
def firstBad (n : Int) : List PyData → Nat → Option Int
  | [], _ => none
  | d :: r, i => if stateD n d = true then firstBad n r (i + 1) else some (i : Int)
/-- what BadBook tells of it -/
def formErr (d : PyData) : Option Int := match d with
  | .tuple ds => if 1 ≤ ds.length ∧ ds.length ≤ 8 then firstBad ds.length ds 0 else some (-1)
  | _ => some (-1)
theorem dpAll_len {K : PySem.W.Frag} {H : Hp} : ∀ {vs : List V} {ds : List PyData}, DpAll K H vs ds → vs.length = ds.length
  | _, _, .nil => rfl
  | _, _, .cons _ t => by rw [List.length_cons, List.length_cons, dpAll_len t]
theorem dpAll_get {K : PySem.W.Frag} {H : Hp} : ∀ {vs : List V} {ds : List PyData} {i : Nat} {d : PyData}, DpAll K H vs ds → ds[i]? = some d → ∃ v, vs[i]? = some v ∧ Dp K H v d
  | _, _, _, _, .nil, e => by simp at e
  | _, _, 0, _, .cons r _, e => by cases e; exact ⟨_, rfl, r⟩
  | _, _, i + 1, _, .cons _ t, e => by
    obtain ⟨v, h1, h2⟩ := dpAll_get (i := i) t (by simpa using e)
    exact ⟨v, by simpa using h1, h2⟩
theorem dpAll_get' {K : PySem.W.Frag} {H : Hp} : ∀ {vs : List V} {ds : List PyData} {i : Nat} {v : V}, DpAll K H vs ds → vs[i]? = some v → ∃ d, ds[i]? = some d ∧ Dp K H v d
  | _, _, _, _, .nil, e => by simp at e
  | _, _, 0, _, .cons r _, e => by cases e; exact ⟨_, rfl, r⟩
  | _, _, i + 1, _, .cons _ t, e => by
    obtain ⟨v, h1, h2⟩ := dpAll_get' (i := i) t (by simpa using e)
    exact ⟨v, by simpa using h1, h2⟩
/-- the type of data -/
def tyD : PyData → String
  | .none => "NoneType"
  | .bool _ => "bool"
  | .int _ => "int"
  | .str _ => "str"
  | .list _ => "list"
  | .tuple _ => "tuple"
  | .dict _ => "dict"
theorem SqT.tyT {K : PySem.W.Frag} {H : Hp} {a : Addr} {xs : List V} (h : SqT K H a xs) : TyX K H (.ref a) (.type "tuple") := by
  rcases h with (h | ⟨o, h⟩) | ⟨o, its, n, e, c, _⟩
  · exact .base (.tup h)
  · exact .fTuple h
  · exact .kTuple e c
theorem SqL.tyL {K : PySem.W.Frag} {H : Hp} {a : Addr} {xs : List V} (h : SqL K H a xs) : TyX K H (.ref a) (.type "list") := by
  rcases h with (h | ⟨o, h⟩) | ⟨o, its, n, e, c, _⟩
  · exact .base (.lst h)
  · exact .base (.frz h)
  · exact .kList e c
theorem Dp.ty {K : PySem.W.Frag} {H : Hp} {v : V} {d : PyData} (h : Dp K H v d) : TyX K H v (.type (tyD d)) := by
  cases h with
  | non => exact .base .non
  | bl b => exact .base (.bl b)
  | int i => exact .base (.int i)
  | str x => exact .base (.str x)
  | lst h _ => exact SqL.tyL h
  | tup h _ => exact SqT.tyT h
theorem pairs_cons {last n : Int} {d : PyData} {r : List PyData} : pairsD last n (d :: r) = match pairD last n d with | some m => pairsD m n r | none => false := rfl
end Nv
set_option Elab.async false
set_option linter.all false
set_option maxRecDepth 100000
namespace Nv
open PySem PySem.Spec PyProof.Rows L2
/-! ### written data -/
mutual
theorem Dp.ext0 {K : PySem.W.Frag} {H H' : Hp} (e : Ext [] H H') : ∀ {v : V} {d : PyData}, Dp K H v d → Dp K H' v d
  | _, _, .non => .non
  | _, _, .bl b => .bl b
  | _, _, .int i => .int i
  | _, _, .str x => .str x
  | _, _, .lst h t => .lst (e.frz (by simp) h) (DpAll.ext0 e t)
  | _, _, .tup h t => .tup (e.tup Lsts.nil h) (DpAll.ext0 e t)
theorem DpAll.ext0 {K : PySem.W.Frag} {H H' : Hp} (e : Ext [] H H') : ∀ {vs : List V} {ds : List PyData}, DpAll K H vs ds → DpAll K H' vs ds
  | _, _, .nil => .nil
  | _, _, .cons h t => .cons (Dp.ext0 e h) (DpAll.ext0 e t)
end
theorem peW {X : Cx} {e : Expr} {t t' : TE} (h : PE X e t) (w : ∀ σ H Q, t' σ H Q → t σ H Q) : PE X e t' := ⟨fun pins s σ H Q I q => h.run pins s σ H Q I (w σ H Q q)⟩
theorem paW {X : Cx} {es : List Expr} {t t' : TA} (h : PA X es t) (w : ∀ σ H R, t' σ H R → t σ H R) : PA X es t' := ⟨fun pos pins s σ H R I q => h.run pos pins s σ H R I (w σ H R q)⟩
/-- data told by the slots -/
def tDat (K : PySem.W.Frag) (f : L2.St → Option PyData) : TE := fun σ H Q => ∃ d, f σ = some d ∧ ∀ v H', Ext [] H H' → Dp K H' v d → Q v H'
def tDats (K : PySem.W.Frag) (f : L2.St → Option (List PyData)) : TA := fun σ H R => ∃ ds, f σ = some ds ∧ ds.length ≤ 1000 ∧ ∀ vs H', Ext [] H H' → DpAll K H' vs ds → R vs H'
/-- a new list of data -/
def tDatL (K : PySem.W.Frag) (f : L2.St → Option (List PyData)) : TE := fun σ H Q => ∃ ds, f σ = some ds ∧ ds.length ≤ 1000 ∧ ∀ p vs H', H p = none → H' p = some (.lst vs) → Ext [] H H' → DpAll K H' vs ds → Q (.ref p) H'
def consO (f : L2.St → Option PyData) (g : L2.St → Option (List PyData)) : L2.St → Option (List PyData) := fun σ => match f σ, g σ with
  | some d, some ds => some (d :: ds)
  | _, _ => none
def slotI (i : Nat) (σ : L2.St) : Option PyData := match σ[i]? with
  | some (some (.int n)) => some (.int n)
  | _ => none
theorem slotI_some {i : Nat} {σ : L2.St} {d : PyData} (h : slotI i σ = some d) : ∃ n, σ[i]? = some (some (.int n)) ∧ d = .int n := by
  unfold slotI at h
  split at h
  · rename_i n e
    exact ⟨n, e, (Option.some.inj h).symm⟩
  · cases h
def tupO (g : L2.St → Option (List PyData)) (σ : L2.St) : Option PyData := match g σ with
  | some l => if l.length ≤ 1000 then some (.tuple l) else none
  | none => none
theorem tupO_some {g : L2.St → Option (List PyData)} {σ : L2.St} {d : PyData} (h : tupO g σ = some d) : ∃ l, g σ = some l ∧ l.length ≤ 1000 ∧ d = .tuple l := by
  unfold tupO at h
  split at h
  · rename_i l e
    split at h
    · rename_i hl
      exact ⟨l, e, hl, (Option.some.inj h).symm⟩
    · cases h
  · cases h
theorem consO_some {f : L2.St → Option PyData} {g : L2.St → Option (List PyData)} {σ : L2.St} {l : List PyData} (h : consO f g σ = some l) : ∃ d ds, f σ = some d ∧ g σ = some ds ∧ l = d :: ds := by
  unfold consO at h
  split at h
  · rename_i d ds e1 e2
    exact ⟨d, ds, e1, e2, (Option.some.inj h).symm⟩
  · cases h
section
variable {X : Cx} {K : PySem.W.Frag}
theorem pd_int {i : Int} {j : Nat} {pos : Pos} : PE X (.Constant (.int i) j pos) (tDat K fun _ => some (.int i)) := peW pe_int fun σ H Q ⟨_, e, q⟩ => by cases e; exact q _ H .refl (.int i)
theorem pd_neg {i : Int} {j : Nat} {pos pos' : Pos} : PE X (.UnaryOp .USub (.Constant (.int i) j pos) pos') (tDat K fun _ => some (.int (-i))) := peW (pe_un un_neg pe_int) fun σ H Q ⟨_, e, q⟩ => by cases e; exact ⟨i, rfl, q _ H .refl (.int _)⟩
theorem pd_bool {b : Bool} {j : Nat} {pos : Pos} : PE X (.Constant (.bool b) j pos) (tDat K fun _ => some (.bool b)) := peW pe_bl fun σ H Q ⟨_, e, q⟩ => by cases e; exact q _ H .refl (.bl b)
theorem pd_none {j : Nat} {pos : Pos} : PE X (.Constant .none j pos) (tDat K fun _ => some .none) := peW pe_non fun σ H Q ⟨_, e, q⟩ => by cases e; exact q _ H .refl .non
theorem pd_str {x : Str} {j : Nat} {pos : Pos} : PE X (.Constant (.str x) j pos) (tDat K fun _ => some (.str x)) := peW pe_str fun σ H Q ⟨_, e, q⟩ => by cases e; exact q _ H .refl (.str x)
/-- a slot that holds a number -/
theorem pd_var {e : Expr} {i : Nat} (h : PE X e (tVar i)) : PE X e (tDat K (slotI i)) := peW h fun σ H Q ⟨d, e, q⟩ => by
  obtain ⟨n, hs, rfl⟩ := slotI_some e
  exact ⟨_, hs, q _ H .refl (.int n)⟩
theorem pds_nil : PA X [] (tDats K fun _ => some []) := paW pa_nil fun σ H R ⟨_, e, _, q⟩ => by cases e; exact q [] H .refl .nil
theorem pds_cons {e : Expr} {es : List Expr} {f : L2.St → Option PyData} {g : L2.St → Option (List PyData)} (h : PE X e (tDat K f)) (r : PA X es (tDats K g)) (hs : starEach (e :: es) X.env = (false, eval e X.env) :: starEach es X.env := by rfl) :
    PA X (e :: es) (tDats K (consO f g)) := paW (pa_cons h r hs) fun σ H R ⟨ds, e, hl, q⟩ => by
  obtain ⟨d, l, hf, hg, rfl⟩ := consO_some e
  rw [List.length_cons] at hl
  exact ⟨d, hf, fun v H1 e1 h1 => ⟨l, hg, by omega, fun vs H2 e2 h2 => q (v :: vs) H2 (e1.trans e2) (.cons (Dp.ext0 e2 h1) h2)⟩⟩
theorem pd_tup {es : List Expr} {g : L2.St → Option (List PyData)} {c : Nat} {pos : Pos} (h : PA X es (tDats K g)) : PE X (.Tuple es c pos) (tDat K (tupO g)) :=
  peW (pe_tup h) fun σ H Q ⟨d, e, q⟩ => by
    obtain ⟨l, hg, hl, rfl⟩ := tupO_some e
    refine ⟨l, hg, hl, fun vs H' e1 h1 => ⟨by rw [dpAll_len h1]; exact Nat.le_of_lt (small1000 hl), fun p hp => ?_⟩⟩
    have e2 : Ext [] H' (upd H' p (.tup vs)) := .new hp
    exact q _ _ (e1.trans e2) (.tup (.of upd_same) (DpAll.ext0 e2 h1))
theorem pd_lst {es : List Expr} {g : L2.St → Option (List PyData)} {pos : Pos} (h : PA X es (tDats K g)) : PE X (.List es pos) (tDatL K g) :=
  peW (pe_lst h) fun σ H Q ⟨l, e, hl, q⟩ => ⟨l, e, hl, fun vs H' e1 h1 => ⟨by rw [dpAll_len h1]; exact Nat.le_of_lt (small1000 hl), fun p hp => by
    have e2 : Ext [] H' (upd H' p (.lst vs)) := .new hp
    exact q p vs _ (e1.free hp) upd_same (e1.trans e2) (DpAll.ext0 e2 h1)⟩⟩
end
end Nv
namespace Nv
open PySem PySem.Spec PyProof.Rows L2
theorem DpAll.append {K : PySem.W.Frag} {H : Hp} : ∀ {vs ws : List V} {ds es : List PyData}, DpAll K H vs ds → DpAll K H ws es → DpAll K H (vs ++ ws) (ds ++ es)
  | _, _, _, _, .nil, h => h
  | _, _, _, _, .cons r t, h => .cons r (DpAll.append t h)
theorem DpAll.rep {K : PySem.W.Frag} {H : Hp} {vs : List V} {ds : List PyData} (h : DpAll K H vs ds) : ∀ k : Nat, DpAll K H (List.replicate k vs).flatten (List.replicate k ds).flatten
  | 0 => .nil
  | k + 1 => by
    rw [List.replicate_succ, List.replicate_succ, List.flatten_cons, List.flatten_cons]
    exact DpAll.append h (DpAll.rep h k)
def repO (g : L2.St → Option (List PyData)) (k : Int) (σ : L2.St) : Option PyData := match g σ with
  | some l => if l ≠ [] ∧ l.length ≤ 1000 ∧ 2 ≤ k ∧ k ≤ 1000 then some (.tuple (List.replicate k.toNat l).flatten) else none
  | none => none
theorem pd_rep {X : Cx} {es : List Expr} {g : L2.St → Option (List PyData)} {c j : Nat} {k : Int} {pos p2 p3 : Pos} (h : PA X es (tDats X.K g)) : PE X (.BinOp (.Tuple es c pos) .Mult (.Constant (.int k) j p2) p3) (tDat X.K (repO g k)) :=
  peW (pe_op op_repT (pe_tup h) pe_int) fun σ H Q ⟨d, e, q⟩ => by
    unfold repO at e
    split at e
    · rename_i l hg
      split at e
      · rename_i hc
        obtain ⟨h1, h2, h3, h4⟩ := hc
        cases e
        refine ⟨l, hg, h2, fun vs H' e1 hd => ⟨by rw [dpAll_len hd]; exact Nat.le_of_lt (small1000 h2), fun p hp => ?_⟩⟩
        have e2 : Ext [] H' (upd H' p (.tup vs)) := .new hp
        refine ⟨p, k, vs, rfl, rfl, .of upd_same, fun z => h1 ?_, h3, h4, by rw [dpAll_len hd]; exact h2, fun t ht => ?_⟩
        · have := dpAll_len hd
          rw [z] at this
          exact List.eq_nil_of_length_eq_zero this.symm
        · have e3 := e2.put2 (o := .tup (List.replicate k.toNat vs).flatten) ht
          exact q _ _ (e1.trans e3) (.tup (.of upd_same) (DpAll.rep (DpAll.ext0 e3 hd) k.toNat))
      · cases e
    · cases e
end Nv
namespace Nv
open PySem PySem.Spec PyProof.Rows L2
mutual
def noL : PyData → Bool
  | .list _ => false
  | .tuple ds => noLs ds
  | _ => true
def noLs : List PyData → Bool
  | [] => true
  | d :: r => noL d && noLs r
end
mutual
theorem Dp.extL {K : PySem.W.Frag} {L : List Addr} {H H' : Hp} (e : Ext L H H') (l : Lsts L H) : ∀ {v : V} {d : PyData}, Dp K H v d → noL d = true → Dp K H' v d
  | _, _, .non, _ => .non
  | _, _, .bl b, _ => .bl b
  | _, _, .int i, _ => .int i
  | _, _, .str x, _ => .str x
  | _, _, .lst _ _, h => by simp [noL] at h
  | _, _, .tup h t, n => .tup (e.tup l h) (DpAll.extL e l t (by simpa [noL] using n))
theorem DpAll.extL {K : PySem.W.Frag} {L : List Addr} {H H' : Hp} (e : Ext L H H') (l : Lsts L H) : ∀ {vs : List V} {ds : List PyData}, DpAll K H vs ds → noLs ds = true → DpAll K H' vs ds
  | _, _, .nil, _ => .nil
  | _, _, .cons h t, n => by
    simp only [noLs, Bool.and_eq_true] at n
    exact .cons (Dp.extL e l h n.1) (DpAll.extL e l t n.2)
end
end Nv
set_option Elab.async false
set_option linter.all false
set_option maxRecDepth 100000
namespace Nv
open PySem PySem.Spec PyProof.Rows L2
section
variable {P : Program} {w : World} {K : PySem.W.Frag} {mg : Str → Option Value} {base : Heap}
/-! ### numbers and tuples: the program's checks -/
theorem sc_whole : FnScope ["thing"] ["thing"] (defScope s_whole) := ⟨rfl, rfl, rfl, by decide +kernel, rfl, by decide +kernel, by decide +kernel⟩
def sp_whole : Sp := fun vs H Q _ => ∃ i : Int, vs = [.int i] ∧ Q (.bl true) H
theorem ok_whole (T : Tx K mg) : FnOk P w K mg base CX0 1 T.whole.f T.whole.fd ["thing"] sp_whole := by
  refine T.whole.F.ok sc_whole (fun vs H Q E h => ?_) (fun cdv A outer s H vs Q E hr h => ?_)
  · obtain ⟨i, rfl, _⟩ := h; rfl
  · obtain ⟨i, rfl, q⟩ := h
    refine ⟨_, (pss_one (ps_ret (pe_and (pe_callB call_isi (by rfl) T.n_isinstance (by decide +kernel) (pa_cons (pv 0) (pa_cons (pe_bltn (v := .ty "int") (by rfl) T.n_int (by decide +kernel) rfl) pa_nil))) (pe_one (pe_not (pe_callB call_isi (by rfl) T.n_isinstance (by decide +kernel) (pa_cons (pv 0) (pa_cons (pe_bltn (v := .ty "bool") (by rfl) T.n_bool (by decide +kernel) rfl) pa_nil)))))))), ?_⟩
    refine ⟨_, rfl, _, _, _, _, _, rfl, .ty _, .base (.int i), kit_ty (b := "int") (r := true) (by decide +kernel), true, rfl, iteT ⟨_, rfl, _, _, _, _, _, rfl, .ty _, .base (.int i), kit_ty (b := "bool") (r := false) (by decide +kernel), false, rfl, q⟩⟩
theorem sc_whole_within : FnScope ["thing", "low", "high"] ["thing", "low", "high"] (defScope s_whole_within) := ⟨rfl, rfl, rfl, by decide +kernel, rfl, by decide +kernel, by decide +kernel⟩
def sp_whole_within : Sp := fun vs H Q _ => ∃ i a b : Int, vs = [.int i, .int a, .int b] ∧ Q (.bl (decide (a ≤ i ∧ i ≤ b))) H
theorem ok_whole_within (T : Tx K mg) : FnOk P w K mg base CX0 2 T.whole_within.f T.whole_within.fd ["thing", "low", "high"] sp_whole_within := by
  refine T.whole_within.F.ok sc_whole_within (fun vs H Q E h => ?_) (fun cdv A outer s H vs Q E hr h => ?_)
  · obtain ⟨i, a, b, rfl, _⟩ := h; rfl
  · obtain ⟨i, a, b, rfl, q⟩ := h
    refine ⟨_, (pss_one (ps_ret (pe_and (pe_call (ok_whole T) (hr.mono (by decide)) (by rfl) T.whole.g T.whole.F.kp T.whole.b .nil pass0 (pa_cons (pv 0) pa_nil)) (pe_one (pe_chain op_le op_le (pv 1) (pv 0) (pv 2)))))), ?_⟩
    refine ⟨_, rfl, i, rfl, true, rfl, iteT ⟨_, rfl, _, rfl, _, _, rfl, rfl, _, rfl, ?_⟩⟩
    by_cases h1 : a ≤ i
    · rw [decide_eq_true h1]
      refine iteT ⟨_, rfl, _, _, rfl, rfl, ?_⟩
      have e : decide (a ≤ i ∧ i ≤ b) = decide (i ≤ b) := by simp [h1]
      rw [e] at q
      exact q
    · rw [decide_eq_false h1]
      have e : decide (a ≤ i ∧ i ≤ b) = false := by simp [h1]
      rw [e] at q
      exact iteF q
theorem sc_tuple_within : FnScope ["thing", "low", "high"] ["thing", "low", "high"] (defScope s_tuple_within) := ⟨rfl, rfl, rfl, by decide +kernel, rfl, by decide +kernel, by decide +kernel⟩
def sp_tuple_within (K : PySem.W.Frag) : Sp := fun vs H Q _ => ∃ (t : Addr) (xs : List V) (a b : Int), vs = [.ref t, .int a, .int b] ∧ SqT K H t xs ∧ TyX K H (.ref t) (.type "tuple") ∧ Q (.bl (decide (a ≤ (xs.length : Int) ∧ (xs.length : Int) ≤ b))) H
theorem ok_tuple_within (T : Tx K mg) : FnOk P w K mg base CX0 1 T.tuple_within.f T.tuple_within.fd ["thing", "low", "high"] (sp_tuple_within K) := by
  refine T.tuple_within.F.ok sc_tuple_within (fun vs H Q E h => ?_) (fun cdv A outer s H vs Q E hr h => ?_)
  · obtain ⟨t, xs, a, b, rfl, _⟩ := h; rfl
  · obtain ⟨t, xs, a, b, rfl, ht, ty, q⟩ := h
    refine ⟨_, (pss_one (ps_ret (pe_and (pe_callB call_isi (by rfl) T.n_isinstance (by decide +kernel) (pa_cons (pv 0) (pa_cons (pe_bltn (v := .ty "tuple") (by rfl) T.n_tuple (by decide +kernel) rfl) pa_nil))) (pe_one (pe_chain op_le op_le (pv 1) (pe_callB call_len_seq (by rfl) T.n_len PySem.boot_len (pa_cons (pv 0) pa_nil)) (pv 2)))))), ?_⟩
    refine ⟨_, rfl, _, _, _, _, _, rfl, .ty _, ty, kit_ty (b := "tuple") (r := true) (by decide +kernel), true, rfl, iteT ⟨_, rfl, _, rfl, t, xs, rfl, .inr ht, _, _, rfl, rfl, _, rfl, ?_⟩⟩
    by_cases h1 : a ≤ (xs.length : Int)
    · rw [decide_eq_true h1]
      refine iteT ⟨_, rfl, _, _, rfl, rfl, ?_⟩
      have e : decide (a ≤ (xs.length : Int) ∧ (xs.length : Int) ≤ b) = decide ((xs.length : Int) ≤ b) := by simp [h1]
      rw [e] at q
      exact q
    · rw [decide_eq_false h1]
      have e : decide (a ≤ (xs.length : Int) ∧ (xs.length : Int) ≤ b) = false := by simp [h1]
      rw [e] at q
      exact iteF q
theorem SqT.ty {K : PySem.W.Frag} {H : Hp} {a : Addr} {xs : List V} (h : SqT K H a xs) : TyX K H (.ref a) (.type "tuple") := by
  rcases h with (h | ⟨o, h⟩) | ⟨o, its, n, e, c, _⟩
  · exact .base (.tup h)
  · exact .fTuple h
  · exact .kTuple e c
/-! ### the law's draws -/
/-- the pool at p, its list at l -/
def PoolAt (H : Hp) (p l : Addr) : Prop := p ≠ l ∧ ∃ (x y : Int) (ns : List Int), H p = some (.lst [.int x, .int y, .ref l]) ∧ H l = some (.lst (ns.map V.int)) ∧ 0 ≤ x ∧ 0 ≤ y ∧ y < 4294967296 ∧ ns.length ≤ 63
theorem PoolAt.lsts {H : Hp} {p l : Addr} (h : PoolAt H p l) : Lsts [p, l] H := by
  obtain ⟨_, x, y, ns, h1, h2, _⟩ := h
  exact two_lsts h1 h2
theorem PoolAt.ext {H H' : Hp} {p l : Addr} {L : List Addr} (h : PoolAt H p l) (e : Ext L H H') (h1 : p ∉ L) (h2 : l ∉ L) : PoolAt H' p l := by
  obtain ⟨n, x, y, ns, a, b, r⟩ := h
  exact ⟨n, x, y, ns, e _ _ h1 a, e _ _ h2 b, r⟩
theorem PoolAt.ext0 {H H' : Hp} {p l : Addr} (h : PoolAt H p l) (e : Ext [] H H') : PoolAt H' p l := h.ext e (by simp) (by simp)
theorem sc_law_pool : FnScope ["script", "first", "size"] ["script"] (defScope s_law_pool) := ⟨rfl, rfl, rfl, by decide +kernel, rfl, by decide +kernel, by decide +kernel⟩
def sp_law_pool (K : PySem.W.Frag) : Sp := fun vs H Q _ => ∃ (a : Addr) (ns : List Int), vs = [.ref a] ∧ SqL K H a (ns.map V.int) ∧ ns.length ≤ 63 ∧ ∀ (p l : Addr) (H' : Hp), H p = none → H l = none → PoolAt H' p l → Ext [] H H' → Q (.ref p) H'
theorem ok_law_pool (T : Tx K mg) : FnOk P w K mg base CX0 1 T.law_pool.f T.law_pool.fd ["script"] (sp_law_pool K) := by
  refine T.law_pool.F.ok sc_law_pool (fun vs H Q E h => ?_) (fun cdv A outer s H vs Q E hr h => ?_)
  · obtain ⟨a, ns, rfl, _⟩ := h; rfl
  · obtain ⟨a, ns, rfl, hS, hl, q⟩ := h
    refine ⟨_, (C8.pss_cut (ps_set (i := 1) sc_law_pool.nd rfl (.inl rfl) (pe_mid (pe_ifExp (pt_cmpR op_gt (pe_callB call_len_seq (by rfl) T.n_len PySem.boot_len (pa_cons (pv 0) pa_nil)) pe_int (nomark _)) (pe_callTy call_int1 (by rfl) T.n_int (by decide +kernel) (pa_cons (pe_ix ix_list (pv 0) pe_int (fun _ _ => rfl)) pa_nil)) pe_int)))
      (C8.pss_cut (ps_set (i := 2) sc_law_pool.nd rfl (.inl rfl) (pe_mid (pe_ifExp (pt_cmpR op_ge (pv 1) pe_int (nomark _)) (pe_op op_mul pe_int (pv 1)) (pe_op op_sub (pe_un un_neg pe_int) (pe_op op_mul pe_int (pv 1))))))
      (pss_one (ps_ret (pe_lst (pa_cons (pe_mid (pe_ifExp (pt_cmpR op_ge (pv 2) (pe_op op_pow pe_int pe_int) (nomark _)) (pv 2) pe_int)) (pa_cons (pe_op op_add (pe_op op_mod (pe_callTy call_int1 (by rfl) T.n_int (by decide +kernel) (pa_cons (pe_op op_add (pe_op op_mul (pv 2) pe_int) pe_int) pa_nil)) pe_int) pe_int) (pa_cons (pe_callTy call_list_of (by rfl) T.n_list (by decide +kernel) (pa_cons (pe_slice sl_list (pv 0) (po_some pe_int) po_none) pa_nil)) pa_nil)))))))), ?_⟩
    refine ⟨fun σ' H' => H' = H ∧ ∃ i : Int, σ' = [some (.ref a), some (.int i), none], ?_, ?_⟩
    · refine ⟨fun v H' => H' = H ∧ ∃ i : Int, v = .int i, ?_, ?_⟩
      · refine ⟨_, rfl, a, _, rfl, .inl hS, _, _, rfl, rfl, _, rfl, ite2 (fun e => ?_) (fun e => ?_)⟩
        · cases ns with
          | nil => simp at e
          | cons n r => exact ⟨_, rfl, _, _, _, _, rfl, rfl, hS, atI_nat (j := 0) rfl, .inl ⟨_, rfl, rfl, _, rfl⟩⟩
        · exact ⟨rfl, _, rfl⟩
      · rintro v H' ⟨rfl, i, rfl⟩
        exact ⟨rfl, i, rfl⟩
    · rintro σ' H' ⟨rfl, i, rfl⟩
      refine ⟨fun σ' H1 => H1 = H' ∧ ∃ z : Int, 0 ≤ z ∧ σ' = [some (.ref a), some (.int i), some (.int z)], ?_, ?_⟩
      · refine ⟨fun v H1 => H1 = H' ∧ ∃ z : Int, 0 ≤ z ∧ v = .int z, ?_, ?_⟩
        · refine ⟨_, rfl, _, _, rfl, rfl, _, rfl, ite2 (fun e => ?_) (fun e => ?_)⟩
          · have e := of_decide_eq_true e
            exact ⟨_, rfl, _, _, rfl, rfl, .inl ⟨by decide, by decide⟩, rfl, _, by omega, rfl⟩
          · have e : ¬ (0 ≤ i) := fun z => e (decide_eq_true z)
            exact ⟨_, rfl, _, rfl, _, _, rfl, rfl, .inl ⟨by decide, by decide⟩, _, _, rfl, rfl, rfl, _, by omega, rfl⟩
        · rintro v H1 ⟨rfl, z, hz, rfl⟩
          exact ⟨rfl, z, hz, rfl⟩
      · rintro σ' H1 ⟨rfl, z, hz, rfl⟩
        have ym : 0 ≤ (z * 48271 + 1009) % 2147483629 + 3 ∧ (z * 48271 + 1009) % 2147483629 + 3 < 4294967296 := by omega
        refine ⟨fun v H' => H' = H1 ∧ ∃ x : Int, 0 ≤ x ∧ v = .int x, ?_, ?_⟩
        · refine ⟨_, rfl, _, _, rfl, rfl, ⟨by decide, by decide, by decide⟩, _, _, rfl, rfl, _, rfl, ite2 (fun e => ?_) (fun e => ?_)⟩
          · exact ⟨_, rfl, rfl, z, hz, rfl⟩
          · exact ⟨rfl, 0, by omega, rfl⟩
        · rintro v H' ⟨rfl, x, hx, rfl⟩
          refine ⟨_, rfl, _, _, rfl, rfl, .inr ⟨by decide, by decide⟩, _, _, rfl, rfl, .inl ⟨_, rfl, _, _, rfl, rfl, (by show (0:Int) < 2147483629; decide), _, _, rfl, rfl, ?_⟩⟩
          refine ⟨.ref a, rfl, 1, rfl, a, _, rfl, hS, fun c hc => ⟨c, _, rfl, .inl (.of upd_same), fun l hl0 => ⟨(by show 3 ≤ sizeLine; decide), fun p hp => ?_⟩⟩⟩
          have s1 : Ext [] H' (upd H' c (.lst (cutV (ns.map V.int) (some 1) none))) := .new hc
          have s2 := s1.trans (Ext.new (L := []) (o := .lst (cutV (ns.map V.int) (some 1) none)) hl0)
          have pl : p ≠ l := fun e => by rw [e, upd_same] at hp; cases hp
          have cut : ∃ ms : List Int, cutV (ns.map V.int) (some 1) none = ms.map V.int ∧ ms.length ≤ 63 := by
            unfold cutV
            exact ⟨(ns.drop _).take _, by rw [List.map_take, List.map_drop], by rw [List.length_take, List.length_drop]; omega⟩
          obtain ⟨ms, em, hm⟩ := cut
          refine q p l _ (s2.free hp) (s1.free hl0) ⟨pl, x, _, ms, upd_same, ?_, hx, ym.1, ym.2, hm⟩ (s2.trans (.new hp))
          rw [upd_ne pl.symm, upd_same, em]
theorem sc_law_draw : FnScope ["pool", "many", "cell", "size", "found"] ["pool", "many"] (defScope s_law_draw) := ⟨rfl, rfl, rfl, by decide +kernel, rfl, by decide +kernel, by decide +kernel⟩
def sp_law_draw : Sp := fun vs H Q _ => ∃ (p l : Addr) (m : Int), vs = [.ref p, .int m] ∧ PoolAt H p l ∧ 0 < m ∧ m < 1073741824 ∧ ∀ (r : Int) (H' : Hp), 0 ≤ r → r < m → PoolAt H' p l → Ext [p, l] H H' → Q (.int r) H'
theorem ok_law_draw (T : Tx K mg) : FnOk P w K mg base CX0 1 T.law_draw.f T.law_draw.fd ["pool", "many"] sp_law_draw := by
  refine T.law_draw.F.ok sc_law_draw (fun vs H Q E h => ?_) (fun cdv A outer s H vs Q E hr h => ?_)
  · obtain ⟨p, l, m, rfl, _⟩ := h; rfl
  · obtain ⟨p, l, m, rfl, hP, hm, hm2, q⟩ := h
    refine ⟨_, (C8.pss_cut (ps_if (PW.pt (pw_and (pt_cmpR op_eq (pe_ix ix_list (pv 0) pe_int (fun _ _ => rfl)) pe_int (nomark _)) (pw_and1 (pt_cmpR (op_neD (hr.units)) (pe_ix ix_list (pv 0) pe_int (fun _ _ => rfl)) (pe_lst pa_nil) (nomark _)))))
        (pss_cons (ps_set (i := 2) sc_law_draw.nd rfl (.inl rfl) (pe_callTy call_int1 (by rfl) T.n_int (by decide +kernel) (pa_cons (pe_bm PySem.F.plainAttrs_list PySem.F.slot_list_pop PySem.F.type_list_pop mt_popAt (pe_ix ix_list (pv 0) pe_int (fun _ _ => rfl)) (pa_cons pe_int pa_nil)) pa_nil)))
        (pss_cons (ps_set (i := 3) sc_law_draw.nd rfl (.inl rfl) (pe_mid (pe_ifExp (pt_cmpR op_ge (pv 2) pe_int (nomark _)) (pe_op op_mul pe_int (pv 2)) (pe_op op_sub (pe_un un_neg pe_int) (pe_op op_mul pe_int (pv 2))))))
        (pss_cons (ps_asg (pe_mid (pe_ifExp (pt_cmpR op_ge (pv 3) (pe_op op_pow pe_int pe_int) (nomark _)) (pv 3) pe_int)) (pg_sub (pv 0) pe_int set_list))
        (pss_one (ps_asg (pe_op op_add (pe_op op_mod (pe_callTy call_int1 (by rfl) T.n_int (by decide +kernel) (pa_cons (pe_op op_add (pe_ix ix_list (pv 0) pe_int (fun _ _ => rfl)) (pe_op op_mul (pv 3) pe_int)) pa_nil)) pe_int) pe_int) (pg_sub (pv 0) pe_int set_list))))))
        pss_nil)
      (pss_cons (ps_if (pt_cmpR op_gt (pe_ix ix_list (pv 0) pe_int (fun _ _ => rfl)) pe_int (nomark _))
        (pss_cons (ps_set (i := 4) sc_law_draw.nd rfl (.inl rfl) (pe_op op_mod (pe_callTy call_int1 (by rfl) T.n_int (by decide +kernel) (pa_cons (pe_ix ix_list (pv 0) pe_int (fun _ _ => rfl)) pa_nil)) (pv 1)))
        (pss_cons (ps_asg (pe_op op_fdiv (pe_ix ix_list (pv 0) pe_int (fun _ _ => rfl)) (pv 1)) (pg_sub (pv 0) pe_int set_list))
        (pss_one (ps_ret (pv 4)))))
        pss_nil)
      (pss_cons (ps_asg (pe_op op_mod (pe_callTy call_int1 (by rfl) T.n_int (by decide +kernel) (pa_cons (pe_op op_add (pe_op op_mul (pe_ix ix_list (pv 0) pe_int (fun _ _ => rfl)) pe_int) pe_int) pa_nil)) pe_int) (pg_sub (pv 0) pe_int set_list))
      (pss_one (ps_ret (pe_op op_mod (pe_op op_fdiv (pe_op op_mod (pe_callTy call_int1 (by rfl) T.n_int (by decide +kernel) (pa_cons (pe_op op_mul (pe_ix ix_list (pv 0) pe_int (fun _ _ => rfl)) (pe_ix ix_list (pv 0) pe_int (fun _ _ => rfl))) pa_nil)) pe_int) pe_int) (pv 1))))))), ?_⟩
    obtain ⟨npl, x, y, ns, hp, hl, hx, hy, hy2, hn⟩ := id hP
    refine ⟨fun σ' H' => PoolAt H' p l ∧ Ext [p, l] H H' ∧ ∃ a b c, σ' = [some (.ref p), some (.int m), a, b, c], ?_, ?_⟩
    · refine ⟨_, rfl, _, _, _, _, rfl, rfl, .of hp, atI_nat (j := 0) rfl, rfl, _, rfl, ite2 (fun e => ?_) (fun e => ?_)⟩
      · refine ⟨_, rfl, _, _, _, _, rfl, rfl, .of hp, atI_nat (j := 2) rfl, by decide, fun c hc => ?_⟩
        have s1 : Ext [] H (upd H c (.lst [])) := .new hc
        refine ⟨_, _, .lst (.of (s1.at hl (by simp))) (dp_ints ns), .lst (.of upd_same) .nil, shaped_ints ns, by decide, _, rfl, ?_⟩
        rw [eqv_nil]
        cases ns with
        | nil =>
          rw [decide_eq_true rfl]
          exact iteF ⟨hP.ext0 s1, s1.weak, _, _, _, rfl⟩
        | cons n r =>
          rw [decide_eq_false (by simp)]
          refine iteT ?_
          have hp1 := s1.at hp (by simp)
          have hl1 := s1.at hl (by simp)
          -- cell
          refine ⟨_, rfl, _, _, _, _, rfl, rfl, .of hp1, atI_nat (j := 2) rfl, .inl ⟨rfl, _, .of hl1⟩, l, _, 0, 0, .int n, rfl, rfl, hl1, by decide, by decide, (by simp [seqIndex?]), rfl, .inl ⟨_, rfl, ?_⟩⟩
          have hp2 : upd (upd H c (.lst [])) l (.lst (((n :: r).map V.int).eraseIdx 0)) p = some (.lst [.int x, .int y, .ref l]) := by rw [upd_ne npl]; exact hp1
          have hl2 : upd (upd H c (.lst [])) l (.lst (((n :: r).map V.int).eraseIdx 0)) l = some (.lst (r.map V.int)) := upd_same
          have s2 : Ext [p, l] H (upd (upd H c (.lst [])) l (.lst (((n :: r).map V.int).eraseIdx 0))) := s1.weak.trans (.wr (by simp))
          generalize upd (upd H c (.lst [])) l (.lst (((n :: r).map V.int).eraseIdx 0)) = H2 at hp2 hl2 s2
          -- size
          refine ⟨fun v H1 => H1 = H2 ∧ ∃ z : Int, 0 ≤ z ∧ v = .int z, ?_, ?_⟩
          · refine ⟨_, rfl, _, _, rfl, rfl, _, rfl, ite2 (fun e => ?_) (fun e => ?_)⟩
            · have e := of_decide_eq_true e
              exact ⟨_, rfl, _, _, rfl, rfl, .inl ⟨by decide, by decide⟩, rfl, _, by omega, rfl⟩
            · have e : ¬ (0 ≤ n) := fun z => e (decide_eq_true z)
              exact ⟨_, rfl, _, rfl, _, _, rfl, rfl, .inl ⟨by decide, by decide⟩, _, _, rfl, rfl, rfl, _, by omega, rfl⟩
          · rintro v H1 ⟨rfl, z, hz, rfl⟩
            -- pool[0]
            refine ⟨fun v H' => H' = H1 ∧ ∃ x : Int, 0 ≤ x ∧ v = .int x, ?_, ?_⟩
            · refine ⟨_, rfl, _, _, rfl, rfl, ⟨by decide, by decide, by decide⟩, _, _, rfl, rfl, _, rfl, ite2 (fun e => ?_) (fun e => ?_)⟩
              · exact ⟨_, rfl, rfl, z, hz, rfl⟩
              · exact ⟨rfl, 0, by omega, rfl⟩
            · rintro v H' ⟨rfl, x2, hx2, rfl⟩
              refine ⟨_, rfl, p, _, 0, 0, rfl, rfl, hp2, rfl, ?_⟩
              -- pool[1]
              refine ⟨_, rfl, _, _, _, _, rfl, rfl, .of upd_same, atI_nat (j := 1) rfl, _, rfl, _, _, rfl, rfl, .inr ⟨by decide, by decide⟩, _, _, rfl, rfl, .inl ⟨_, rfl, _, _, rfl, rfl, (by show (0:Int) < 2147483629; decide), _, _, rfl, rfl, ?_⟩⟩
              refine ⟨_, rfl, p, _, 1, 1, rfl, rfl, upd_same, rfl, ?_⟩
              rw [upd_upd]
              refine ⟨⟨npl, x2, _, r, upd_same, by rw [upd_ne npl.symm]; exact hl2, hx2, ?_, ?_, ?_⟩, s2.trans (.wr (by simp)), _, _, _, rfl⟩
              · omega
              · omega
              · simp at hn; omega
      · exact iteF ⟨hP, .refl, _, _, _, rfl⟩
    · rintro σ' H1 ⟨⟨npl, x, y, ns, hp, hl, hx, hy, hy2, hn⟩, e1, a, b, c, rfl⟩
      refine ⟨_, rfl, _, _, _, _, rfl, rfl, .of hp, atI_nat (j := 0) rfl, _, _, rfl, rfl, _, rfl, ite2 (fun e => ?_) (fun e => ?_)⟩
      · refine ⟨_, rfl, _, _, _, _, rfl, rfl, .of hp, atI_nat (j := 0) rfl, .inl ⟨_, rfl, _, rfl, _, _, rfl, rfl, hm, ?_⟩⟩
        refine ⟨_, rfl, _, _, _, _, rfl, rfl, .of hp, atI_nat (j := 0) rfl, _, rfl, _, _, rfl, rfl, ⟨hm, hm2⟩, _, rfl, p, _, 0, 0, rfl, rfl, hp, rfl, ?_⟩
        refine ⟨_, rfl, q _ _ (Int.emod_nonneg _ (by omega)) (Int.emod_lt_of_pos _ hm) ⟨npl, x / m, y, ns, upd_same, by rw [upd_ne npl.symm]; exact hl, Int.ediv_nonneg hx (by omega), hy, hy2, hn⟩ (e1.trans (.wr (by simp)))⟩
      · refine ⟨_, rfl, _, _, _, _, rfl, rfl, .of hp, atI_nat (j := 1) rfl, _, _, rfl, rfl, .inr ⟨by decide, by decide⟩, _, _, rfl, rfl, .inl ⟨_, rfl, _, _, rfl, rfl, (by show (0:Int) < 2147483647; decide), ?_⟩⟩
        refine ⟨_, rfl, p, _, 1, 1, rfl, rfl, hp, rfl, ?_⟩
        have yb : 0 ≤ (y * 48271 + 11) % 2147483647 ∧ (y * 48271 + 11) % 2147483647 < 2147483647 := by omega
        refine ⟨_, rfl, _, _, _, _, rfl, rfl, .of upd_same, atI_nat (j := 1) rfl, _, rfl, _, _, _, _, rfl, rfl, .of upd_same, atI_nat (j := 1) rfl, _, _, rfl, rfl, .inl ⟨by omega, by omega⟩, .inl ⟨_, rfl, _, _, rfl, rfl, (by show (0:Int) < 2147483629; decide), _, _, rfl, rfl, ⟨by decide, by decide⟩, _, rfl, _, _, rfl, rfl, hm, ?_⟩⟩
        exact q _ _ (Int.emod_nonneg _ (by omega)) (Int.emod_lt_of_pos _ hm) ⟨npl, x, _, ns, upd_same, by rw [upd_ne npl.symm]; exact hl, hx, yb.1, by omega, hn⟩ (e1.trans (.wr (by simp)))
theorem sc_law_pick : FnScope ["pool", "things"] ["pool", "things"] (defScope s_law_pick) := ⟨rfl, rfl, rfl, by decide +kernel, rfl, by decide +kernel, by decide +kernel⟩
def sp_law_pick (K : PySem.W.Frag) : Sp := fun vs H Q _ => ∃ (p l t : Addr) (xs : List V), vs = [.ref p, .ref t] ∧ PoolAt H p l ∧ SqL K H t xs ∧ t ≠ p ∧ t ≠ l ∧ 0 < xs.length ∧ xs.length < 1000 ∧ ∀ (i : Nat) (v : V) (H' : Hp), xs[i]? = some v → PoolAt H' p l → Ext [p, l] H H' → Q v H'
theorem ok_law_pick (T : Tx K mg) : FnOk P w K mg base CX0 2 T.law_pick.f T.law_pick.fd ["pool", "things"] (sp_law_pick K) := by
  refine T.law_pick.F.ok sc_law_pick (fun vs H Q E h => ?_) (fun cdv A outer s H vs Q E hr h => ?_)
  · obtain ⟨p, l, t, xs, rfl, _⟩ := h; rfl
  · obtain ⟨p, l, t, xs, rfl, hP, hS, n1, n2, h0, h1, q⟩ := h
    refine ⟨_, (pss_one (ps_ret (pe_ix ix_list (pv 1) (pe_call (ok_law_draw T) (hr.mono (by decide)) (by rfl) T.law_draw.g T.law_draw.F.kp T.law_draw.b .nil pass0 (pa_cons (pv 0) (pa_cons (pe_callB call_len_seq (by rfl) T.n_len PySem.boot_len (pa_cons (pv 1) pa_nil)) pa_nil))) (fun _ _ => rfl)))), ?_⟩
    refine ⟨_, rfl, _, rfl, _, rfl, t, xs, rfl, .inl hS, p, l, _, rfl, hP, by omega, by omega, fun r H' r0 r1 hP' e => ?_⟩
    obtain ⟨i, rfl⟩ : ∃ i : Nat, r = (i : Int) := ⟨r.toNat, by omega⟩
    have hi : i < xs.length := by omega
    exact ⟨t, xs, _, xs[i], rfl, rfl, e.frz (by simp [n1, n2]) hS, atI_nat (List.getElem?_eq_getElem hi), q i _ _ (List.getElem?_eq_getElem hi) hP' e⟩
end
end Nv
set_option Elab.async false
set_option linter.all false
set_option maxRecDepth 100000
namespace Nv
open PySem PySem.Spec PyProof.Rows L2
section
variable {P : Program} {w : World} {K : PySem.W.Frag} {mg : Str → Option Value} {base : Heap}
/-! ### the law's books: meeting -/
theorem sc_law_book_meeting : FnScope ["moves", "found", "at", "message", "to", "state"] ["moves"] (defScope s_law_book_meeting) := ⟨rfl, rfl, rfl, by decide +kernel, rfl, by decide +kernel, by decide +kernel⟩
def sp_law_book_meeting (K : PySem.W.Frag) : Sp := fun vs H Q _ => ∃ (m : V) (b : Book), vs = [m] ∧ LbV K H m b ∧ 1 ≤ b.length ∧ b.length ≤ 1000 ∧ (∀ s, (mvs b s).length ≤ 1000 ∧ ∀ p ∈ mvs b s, p.2 < b.length) ∧ ∀ (F : List Nat) (v : V) (H' : Hp), Met b F → BkV K H' v (rename b F) → Ext [] H H' → Q v H'
theorem ok_law_book_meeting (T : Tx K mg) : FnOk P w K mg base CX0 1 T.law_book_meeting.f T.law_book_meeting.fd ["moves"] (sp_law_book_meeting K) := by
  refine T.law_book_meeting.F.ok sc_law_book_meeting (fun vs H Q E h => ?_) (fun cdv A outer s H vs Q E hr h => ?_)
  · obtain ⟨m, b, rfl, _⟩ := h; rfl
  · obtain ⟨_, b, rfl, ⟨m, ls, rfl, hm, hls⟩, h1, h2, hto, q⟩ := h
    have llen : ls.length = b.length := Paired.len hls
    refine ⟨_, (pss_cons (ps_set (i := 1) sc_law_book_meeting.nd rfl (.inr rfl) (pe_lst (pa_cons pe_int pa_nil)))
      (C8.pss_cut (ps_for PassesOwn.never rfl (pi_range1 (by rfl) T.n_range (pa_cons (pe_callB call_len_seq (by rfl) T.n_len PySem.boot_len (pa_cons (pv 0) pa_nil)) pa_nil)) (pg_name (i := 2) sc_law_book_meeting.nd rfl (.inl rfl))
        (pss_cons (ps_if (pt_cmpR op_eq (pv 2) (pe_callB call_len_seq (by rfl) T.n_len PySem.boot_len (pa_cons (pv 1) pa_nil)) (nomark _))
          (pss_one ps_break)
          pss_nil)
        (pss_one (ps_for PassesOwn.never rfl (pi_list (pe_ix ix_list (pv 0) (pe_ix ix_list (pv 1) (pv 2) (fun _ _ => rfl)) (fun _ _ => rfl))) (pg_tup rfl (pgs_cons (pg_name (i := 3) sc_law_book_meeting.nd rfl (.inl rfl)) (pgs_cons (pg_name (i := 4) sc_law_book_meeting.nd rfl (.inl rfl)) pgs_nil)))
          (pss_one (ps_if (pt_cmpR op_notIn_seq (pv 4) (pv 1) (by rfl))
            (pss_one (ps_expr (pe_bm PySem.F.plainAttrs_list PySem.F.slot_list_append PySem.F.type_list_append mt_append (pv 1) (pa_cons (pv 4) pa_nil))))
            pss_nil))))))
      (pss_one (ps_ret (pe_callTy call_tupZ (by rfl) T.n_tuple (by decide +kernel) (pa_cons (pe_lc (own := [("state", 5)]) rfl sc_law_book_meeting.nd (pi_list (pv 1)) (blkOk_by (own := [("state", 5)]) (N := ["moves", "found", "at", "message", "to", "state"]) (sc := defScope s_law_book_meeting) (by decide +kernel)) (fun _ _ _ _ _ => (pg_name (i := 5) sc_law_book_meeting.nd rfl (.inl rfl))) (fun _ _ _ _ _ => pts_nil) (fun _ _ _ _ _ => (pe_callTy (call_tupZK K) (by rfl) T.n_tuple (by decide +kernel) (pa_cons (pe_lc (own := [("message", 3), ("to", 4)]) rfl sc_law_book_meeting.nd (pi_listK K (pe_ix (ix_listK K) (pv 0) (pv 5) (fun _ _ => rfl))) (blkOk_by (own := [("message", 3), ("to", 4)]) (by kernel_rfl)) (fun _ _ _ _ _ => (pg_tupK (n := 2) K rfl (pgs_cons (pg_name (i := 3) sc_law_book_meeting.nd rfl (.inl rfl)) (pgs_cons (pg_name (i := 4) sc_law_book_meeting.nd rfl (.inl rfl)) pgs_nil)))) (fun _ _ _ _ _ => pts_nil) (fun _ _ _ _ _ => (pe_tup (pa_cons (pv 3) (pa_cons (pe_bmK K PySem.F.plainAttrs_list PySem.F.slot_list_index PySem.F.type_list_index (mt_indexK K) (pv 1) (pa_cons (pv 4) pa_nil)) pa_nil))))) pa_nil)))) pa_nil)))))), ?_⟩
    -- found = [0]
    refine ⟨(by show 1 ≤ sizeLine; decide), fun f hf => ?_⟩
    have e0 : Ext [] H (upd H f (.lst [.int 0])) := .new hf
    have mf : m ≠ f := ne_of_none hm hf
    refine ⟨fun σ H' => ∃ (F : List Nat) (y2 y3 y4 : Option V), σ = [some (.ref m), some (.ref f), y2, y3, y4, none] ∧ Met b F ∧ Ext [] H H' ∧ H' f = some (.lst (F.map nV)), ?_, ?_⟩
    · refine ⟨_, rfl, m, ls, rfl, .inl (.of (e0.at hm (by simp))), _, rfl, by omega, by omega, for_range (lo := 0) (n := _) (fun i σ H' => ∃ (F : List Nat) (y2 y3 y4 : Option V), σ = [some (.ref m), some (.ref f), y2, y3, y4, none] ∧ MetI b F i ∧ Ext [] H H' ∧ H' f = some (.lst (F.map nV))) ⟨[0], _, _, _, rfl, .first h1, e0, upd_same⟩ ?_ ?_⟩
      · rintro i σ H' hi ⟨F, y2, y3, y4, rfl, mi, e, hF⟩
        simp only [Int.zero_add]
        have hin : i < b.length := by
          have : ((ls.length : Int)).toNat = ls.length := Int.toNat_natCast _
          omega
        -- if at == len(found)
        refine ⟨_, rfl, _, rfl, f, _, rfl, .inl (.of hF), rfl, _, rfl, ?_⟩
        rw [dec_int]
        refine ite2 (fun z => ?_) (fun z => ?_)
        · have z := of_decide_eq_true z
          rw [List.length_map] at z
          exact ⟨F, _, _, _, rfl, mi.met (.inl (by omega)), e, hF⟩
        · have z : ¬ ((i : Int) = ((F.map nV).length : Int)) := fun y => z (decide_eq_true y)
          rw [List.length_map] at z
          have hiF : i < F.length := by have := mi.le; omega
          have hs : F[i]? = some F[i] := List.getElem?_eq_getElem hiF
          generalize F[i] = x at hs
          have hx : x < b.length := mi.lt x (List.mem_of_getElem? hs)
          -- for message, to in moves[found[at]]
          obtain ⟨u, hu, hst⟩ := Paired.get hls (mvs_lt hx)
          obtain ⟨a, ps, rfl, ha, hps⟩ := hst
          refine ⟨_, rfl, _, rfl, _, rfl, f, _, _, _, rfl, rfl, .of hF, atI_nat (at_map hs), m, _, _, _, rfl, rfl, .of (e.at hm (by simp)), atI_nat hu, a, rfl, ⟨_, .of (e.at ha (by simp))⟩, ?_⟩
          have plen : ps.length = (mvs b x).length := Paired.len hps
          refine for_list (K := K) (a := a) (xs := ps.map V.ref) (fun k σ H' => ∃ (F : List Nat) (y3 y4 : Option V), σ = [some (.ref m), some (.ref f), some (.int i), y3, y4, none] ∧ MetW b F i x k ∧ Ext [] H H' ∧ H' f = some (.lst (F.map nV))) ⟨F, _, _, rfl, mi.begin hs, e, hF⟩ (fun k σ H' _ ⟨_, _, _, _, _, e, _⟩ => .of (e.at ha (by simp))) ?_ ?_
          · rintro k v σ H' hv ⟨F, y3, y4, rfl, mw, e, hF⟩
            obtain ⟨c, hc, rfl⟩ := map_at hv
            obtain ⟨p, hp, hcp⟩ := Paired.get' hps hc
            have hcp := hcp.ext0 e
            refine ⟨c, _, rfl, hcp, rfl, _, _, rfl, _, _, rfl, rfl, ?_⟩
            refine ⟨_, rfl, _, rfl, f, _, rfl, .inl (.of hF), rfl, flat_nV F, _, rfl, ?_⟩
            have pb : p.2 < b.length := (hto x).2 p (List.mem_of_getElem? hp)
            rw [show inV (V.int (p.2 : Int)) (F.map nV) = decide (p.2 ∈ F) from inV_nV p.2 F]
            by_cases hin : p.2 ∈ F
            · rw [decide_eq_true hin]
              exact iteF ⟨F, _, _, rfl, mw.skip hp hin, e, hF⟩
            · rw [decide_eq_false hin]
              have hl1000 : F.length ≤ 1000 := Nat.le_trans (nodup_le mw.nd mw.lt) h2
              refine iteT ⟨_, rfl, .inl ⟨rfl, _, .of hF⟩, _, rfl, f, _, _, rfl, rfl, hF, by rw [List.length_map]; exact small1000 hl1000, F ++ [p.2], _, _, rfl, mw.push hp hin pb, e.put hf, ?_⟩
              rw [upd_same, List.map_append]
              rfl
          · rintro σ H' ⟨F, y3, y4, rfl, mw, e, hF⟩
            exact ⟨F, _, _, _, rfl, mw.done (by rw [List.length_map, plen]; exact Nat.le_refl _), e, hF⟩
      · rintro σ H' ⟨F, y2, y3, y4, rfl, mi, e, hF⟩
        exact ⟨F, _, _, _, rfl, mi.met (.inr (by rw [Int.toNat_natCast, llen])), e, hF⟩
    · rintro σ H1 ⟨F, y2, y3, y4, rfl, mt, e1, hF⟩
      have hl1000 : F.length ≤ 1000 := Nat.le_trans (nodup_le mt.nd mt.lt) h2
      -- the new book
      refine ⟨_, rfl, f, rfl, ⟨_, .of hF⟩, fun D hD => ?_⟩
      have fD : f ≠ D := ne_of_none hF hD
      have hDH : H D = none := e1.free hD
      refine lc_list (K := K) (a := f) (xs := F.map nV) (fun i H' => ∃ vs : List V, H' D = some (.lst vs) ∧ Paired (StV K H') vs ((rename b F).take i) ∧ Ext [] H H' ∧ H' f = some (.lst (F.map nV))) ⟨[], upd_same, .nil, e1.put2 hD, by rw [upd_ne fD]; exact hF⟩ (fun i H' _ ⟨_, _, _, _, h⟩ => .of h) ?_ ?_
      · rintro i v H' hv ⟨vs, hDv, hpd, e, hF'⟩
        obtain ⟨x, hx, rfl⟩ := map_at hv
        have hxb : x < b.length := mt.lt x (List.mem_of_getElem? hx)
        obtain ⟨u, hu, a, ps, rfl, ha, hps⟩ := Paired.get hls (mvs_lt hxb)
        have plen : ps.length = (mvs b x).length := Paired.len hps
        refine ⟨rfl, yes ?_⟩
        refine ⟨_, rfl, _, rfl, m, _, _, _, rfl, rfl, .of (e.at hm (by simp)), atI_nat hu, a, rfl, ⟨_, .of (e.at ha (by simp))⟩, fun D2 hD2 => ?_⟩
        have hD2H : H D2 = none := e.free hD2
        have n1 : D ≠ D2 := ne_of_none hDv hD2
        have n2 : f ≠ D2 := ne_of_none hF' hD2
        refine lc_list (K := K) (a := a) (xs := ps.map V.ref) (fun k H2 => ∃ qs : List Addr, H2 D2 = some (.lst (qs.map V.ref)) ∧ Paired (MvV K H2) qs (((mvs b x).take k).map fun p => (p.1, F.idxOf p.2)) ∧ Ext [] H' H2) ⟨[], upd_same, .nil, .new hD2⟩ (fun k H2 _ ⟨_, _, _, e2⟩ => .of ((e.trans e2).at ha (by simp))) ?_ ?_
        · rintro k v H2 hv ⟨qs, hq, hqp, e2⟩
          obtain ⟨c, hc, rfl⟩ := map_at hv
          obtain ⟨p, hp, hcp⟩ := Paired.get' hps hc
          have hcp := hcp.ext0 (e.trans e2)
          have hF2 := e2.at hF' (by simp)
          have pin : p.2 ∈ F := mt.cl x (List.mem_of_getElem? hx) p (List.mem_of_getElem? hp)
          have hidx : F.idxOf p.2 < F.length := List.idxOf_lt_length_of_mem pin
          refine ⟨c, _, rfl, hcp, rfl, _, _, rfl, _, _, rfl, rfl, rfl, yes ?_⟩
          refine ⟨_, rfl, _, rfl, .inl ⟨rfl, _, .of hF2⟩, _, rfl, f, _, _, F.idxOf p.2, nV p.2, rfl, rfl, .of hF2, rfl, flat_nV F, ?_, by rw [show V.int (p.2 : Int) = nV p.2 from rfl, eqV_nV]; simp, ?_, ?_⟩
          · exact at_map (by rw [List.getElem?_eq_getElem hidx, List.getElem_idxOf])
          · intro j z hj hz
            obtain ⟨y, hy, rfl⟩ := map_at hz
            rw [show V.int (p.2 : Int) = nV p.2 from rfl, eqV_nV]
            refine decide_eq_false fun ey => ?_
            subst ey
            have := idx_of mt.nd hy
            omega
          · refine ⟨(by show 2 ≤ sizeLine; decide), fun t ht => ?_⟩
            have tD2 : D2 ≠ t := ne_of_none hq ht
            have e3 : Ext [] H2 (upd H2 t (.tup [.int p.1, .int (F.idxOf p.2 : Nat)])) := .new ht
            refine ⟨_, e3.at hq (by simp), ?_, qs ++ [t], by rw [upd_same, List.map_append]; rfl, ?_, (e2.trans e3).put hD2⟩
            · rw [List.length_map, Paired.len hqp, List.length_map, List.length_take]
              exact small1000 (Nat.le_trans (Nat.min_le_right _ _) (hto x).1)
            · rw [List.take_add_one, hp, List.map_append]
              refine Paired.snoc ?_ (Paired.imp hqp fun _ _ z => (z.ext0 e3).put (e3.at hq (by simp)))
              exact MvV.put (m := (p.1, F.idxOf p.2)) (.of upd_same) (e3.at hq (by simp))
        · rintro H2 ⟨qs, hq, hqp, e2⟩
          have ek : (mvs b x).take (ps.map V.ref).length = mvs b x := List.take_of_length_le (by rw [List.length_map, plen]; exact Nat.le_refl _)
          rw [ek] at hqp
          refine ⟨D2, _, rfl, .of hq, fun t H3 ht hH3 => ?_⟩
          obtain ⟨o, od, rfl⟩ := hH3
          have e3 : Ext [] H2 (upd H2 t (.frz o (.tup (qs.map V.ref)))) := .new ht
          have e4 := e2.trans e3
          refine ⟨vs, e4.at hDv (by simp), ?_, vs ++ [.ref t], upd_same, ?_, (e.trans e4).put hDH, by rw [upd_ne fD]; exact e4.at hF' (by simp)⟩
          · rw [Paired.len hpd, List.length_take]
            exact small1000 (Nat.le_trans (Nat.min_le_right _ _) (by rw [rename_len]; exact hl1000))
          · have hr' : (rename b F)[i]? = some ((mvs b x).map fun p => (p.1, F.idxOf p.2)) := by
              unfold rename
              rw [List.getElem?_map, hx]
              rfl
            rw [List.take_add_one, hr']
            have hDe := e4.at hDv (by simp)
            refine Paired.snoc ?_ (Paired.imp hpd fun _ _ z => (z.ext0 e4).put hDe)
            exact StV.put ⟨t, qs, rfl, ⟨o, upd_same, od⟩, Paired.imp hqp fun _ _ z => z.ext0 e3⟩ hDe
      · rintro H' ⟨vs, hDv, hpd, e, hF'⟩
        refine ⟨D, vs, rfl, .of hDv, fun t H3 ht hH3 => ?_⟩
        obtain ⟨o, od, rfl⟩ := hH3
        have e3 : Ext [] H' (upd H' t (.frz o (.tup vs))) := .new ht
        have ek : (rename b F).take (F.map nV).length = rename b F := List.take_of_length_le (by rw [List.length_map, rename_len]; exact Nat.le_refl _)
        rw [ek] at hpd
        exact q F _ _ mt ⟨t, vs, rfl, .inl (.inr ⟨o, upd_same⟩), Paired.imp hpd fun _ _ z => z.ext0 e3⟩ (e.trans e3)
end
end Nv
set_option Elab.async false
set_option linter.all false
set_option maxRecDepth 100000
namespace Nv
open PySem PySem.Spec PyProof.Rows L2
section
variable {P : Program} {w : World} {K : PySem.W.Frag} {mg : Str → Option Value} {base : Heap}
/-! ### the law's books: messages -/
theorem seqAt {k n : Nat} (h : k < n) : seqIndex? (k : Int) n = some k := by
  unfold seqIndex?
  have h1 : ¬ ((k : Int) < 0) := by omega
  have h2 : (0 : Int) ≤ k := by omega
  have h3 : (k : Int) < n := by omega
  simp [h1, h2, h3]
theorem sorted_nats {F : List Nat} {ns : List Int} (nd : F.Nodup) (p : ns.Perm (F.map fun n : Nat => (n : Int))) (r : ns.Pairwise (· ≤ ·)) : ∃ ms : List Nat, ns.map V.int = ms.map nV ∧ ms.Perm F ∧ ms.Pairwise (· < ·) := by
  have nn : ∀ z ∈ ns, ∃ n : Nat, z = (n : Int) := fun z hz => by
    obtain ⟨n, _, rfl⟩ := List.mem_map.mp (p.mem_iff.mp hz)
    exact ⟨n, rfl⟩
  have nd2 : ns.Nodup := by
    rw [p.nodup_iff]
    refine List.Pairwise.map _ (fun a b h e => h ?_) nd
    exact Int.ofNat.inj e
  have r2 := lt_of_le_nodup ns r nd2
  refine ⟨ns.map Int.toNat, ?_, ?_, ?_⟩
  · rw [List.map_map]
    refine List.map_congr_left fun z hz => ?_
    obtain ⟨n, rfl⟩ := nn z hz
    rfl
  · have q := p.map Int.toNat
    rw [List.map_map] at q
    have e : F.map (Int.toNat ∘ fun n : Nat => (n : Int)) = F := by
      conv => rhs; rw [← List.map_id F]
      exact List.map_congr_left fun z _ => rfl
    rw [e] at q
    exact q
  · rw [List.pairwise_map]
    refine List.Pairwise.imp_of_mem (fun {a b} ha hb h => ?_) r2
    obtain ⟨n, rfl⟩ := nn a ha
    obtain ⟨m, rfl⟩ := nn b hb
    simp
    omega
theorem map_nV_int (F : List Nat) : F.map nV = (F.map fun n : Nat => (n : Int)).map V.int := by rw [List.map_map]; rfl
theorem rgV_nV (n : Nat) : rgV 0 (n : Int) = (List.range n).map nV := by
  unfold rgV
  simp
theorem sc_law_book_messages : FnScope ["pool", "count", "way", "top", "left", "found", "turn"] ["pool", "count"] (defScope s_law_book_messages) := ⟨rfl, rfl, rfl, by decide +kernel, rfl, by decide +kernel, by decide +kernel⟩
def sp_law_book_messages : Sp := fun vs H Q _ => ∃ (p l : Addr) (c : Nat), vs = [.ref p, .int c] ∧ PoolAt H p l ∧ c ≤ 6 ∧ ∀ (ms : List Nat) (t : Addr) (H' : Hp), ms.Pairwise (· < ·) → ms.length = c → (∀ m ∈ ms, m ≤ 99) → H' t = some (.lst (ms.map nV)) → H t = none → PoolAt H' p l → Ext [p, l] H H' → Q (.ref t) H'
theorem ok_law_book_messages (T : Tx K mg) : FnOk P w K mg base CX0 2 T.law_book_messages.f T.law_book_messages.fd ["pool", "count"] sp_law_book_messages := by
  refine T.law_book_messages.F.ok sc_law_book_messages (fun vs H Q E h => ?_) (fun cdv A outer s H vs Q E hr h => ?_)
  · obtain ⟨p, l, c, rfl, _⟩ := h; rfl
  · obtain ⟨p, l, c, rfl, hP, hc, q⟩ := h
    refine ⟨_, (pss_cons (ps_set (i := 2) sc_law_book_messages.nd rfl (.inl rfl) (pe_call (ok_law_draw T) (hr.mono (by decide)) (by rfl) T.law_draw.g T.law_draw.F.kp T.law_draw.b .nil pass0 (pa_cons (pv 0) (pa_cons pe_int pa_nil))))
      (C8.pss_cut (ps_set (i := 3) sc_law_book_messages.nd rfl (.inl rfl) (pe_ix ix_list (pe_lst (pa_cons (pv 1) (pa_cons (pv 1) (pa_cons (pe_callB (call_min2 rfl) (by rfl) T.n_min (by decide +kernel) (pa_cons (pe_op op_add (pv 1) pe_int) (pa_cons pe_int pa_nil))) (pa_cons pe_int pa_nil))))) (pv 2) (fun _ _ => rfl)))
      (pss_cons (ps_par (i := 4) (j := 5) (by rfl) sc_law_book_messages.nd rfl rfl (by decide) rfl rfl (pa_cons (pe_listRg rfl (by rfl) T.n_list (prg_1 (by rfl) T.n_range (pv 3))) (pa_cons (pe_lst pa_nil) pa_nil)) (by rfl))
      (pss_cons (ps_for PassesOwn.never rfl (pi_range1 (by rfl) T.n_range (pa_cons (pv 1) pa_nil)) (pg_name (i := 6) sc_law_book_messages.nd rfl (.inl rfl))
        (pss_one (ps_expr (pe_bm PySem.F.plainAttrs_list PySem.F.slot_list_append PySem.F.type_list_append mt_append (pv 5) (pa_cons (pe_bm PySem.F.plainAttrs_list PySem.F.slot_list_pop PySem.F.type_list_pop mt_popAt (pv 4) (pa_cons (pe_mid (pe_ifExp (pt_cmpR op_lt (pv 2) pe_int (nomark _)) (pe_call (ok_law_draw T) (hr.mono (by decide)) (by rfl) T.law_draw.g T.law_draw.F.kp T.law_draw.b .nil pass0 (pa_cons (pv 0) (pa_cons (pe_callB call_len_seq (by rfl) T.n_len PySem.boot_len (pa_cons (pv 4) pa_nil)) pa_nil))) (pe_op op_sub (pe_op op_sub (pe_callB call_len_seq (by rfl) T.n_len PySem.boot_len (pa_cons (pv 4) pa_nil)) pe_int) (pe_call (ok_law_draw T) (hr.mono (by decide)) (by rfl) T.law_draw.g T.law_draw.F.kp T.law_draw.b .nil pass0 (pa_cons (pv 0) (pa_cons pe_int pa_nil)))))) pa_nil)) pa_nil)))))
      (pss_one (ps_ret (pe_callB cr_sorted (by rfl) T.n_sorted (by decide +kernel) (pa_cons (pv 5) pa_nil)))))))), ?_⟩
    -- way
    refine ⟨_, rfl, p, l, 4, rfl, hP, by decide, by decide, fun r H1 r0 r1 P1 e1 => ?_⟩
    -- top
    refine ⟨fun σ H' => ∃ top : Nat, σ = [some (.ref p), some (.int c), some (.int r), some (.int top), none, none, none] ∧ c ≤ top ∧ top ≤ 100 ∧ (r < 3 ∨ top = 100) ∧ PoolAt H' p l ∧ Ext [p, l] H H', ?_, ?_⟩
    · refine ⟨_, rfl, _, rfl, _, rfl, _, _, rfl, rfl, _, _, rfl, (by show 4 ≤ sizeLine; decide), fun d hd => ?_⟩
      have e2 : Ext [] H1 (upd H1 d (.lst [.int c, .int c, .int (if (6 : Int) < (c : Int) + 2 then 6 else (c : Int) + 2), .int 100])) := .new hd
      have m : ∃ t : Nat, (if (6 : Int) < (c : Int) + 2 then 6 else (c : Int) + 2) = t ∧ c ≤ t ∧ t ≤ 100 := by
        by_cases h : (6 : Int) < (c : Int) + 2
        · rw [if_pos h]; exact ⟨6, rfl, hc, by decide⟩
        · rw [if_neg h]; exact ⟨c + 2, by simp, by omega, by omega⟩
      obtain ⟨t, ht, t1, t2⟩ := m
      have four : r = 0 ∨ r = 1 ∨ r = 2 ∨ r = 3 := by omega
      have pe := P1.ext0 e2
      have ee := e1.trans e2.weak
      rcases four with rfl | rfl | rfl | rfl
      · exact ⟨_, rfl, d, _, _, _, rfl, rfl, .of upd_same, atI_nat (j := 0) rfl, c, rfl, Nat.le_refl _, by omega, .inl (by decide), pe, ee⟩
      · exact ⟨_, rfl, d, _, _, _, rfl, rfl, .of upd_same, atI_nat (j := 1) rfl, c, rfl, Nat.le_refl _, by omega, .inl (by decide), pe, ee⟩
      · exact ⟨_, rfl, d, _, _, _, rfl, rfl, .of upd_same, atI_nat (j := 2) rfl, t, by rw [ht]; rfl, t1, t2, .inl (by decide), pe, ee⟩
      · exact ⟨_, rfl, d, _, _, _, rfl, rfl, .of upd_same, atI_nat (j := 3) rfl, 100, rfl, by omega, Nat.le_refl _, .inr rfl, pe, ee⟩
    · rintro σ H2 ⟨top, rfl, c1, c2, c3, P2, e2⟩
      -- left, found
      refine ⟨_, rfl, _, rfl, RgOk.of_le (by omega) (by omega) (by omega) (by omega), fun lf hlf => ⟨Nat.zero_le _, fun fd hfd => ⟨_, _, rfl, ?_⟩⟩⟩
      rw [rgV_nV] at hfd ⊢
      have e3 : Ext [] H2 (upd H2 lf (.lst ((List.range top).map nV))) := .new hlf
      have e4 := e3.trans (Ext.new (L := []) (o := .lst []) hfd)
      have nlf : fd ≠ lf := fun z => by rw [z, upd_same] at hfd; cases hfd
      have h2p : H2 p ≠ none := by obtain ⟨_, _, _, _, a, _⟩ := P2; rw [a]; simp
      have h2l : H2 l ≠ none := by obtain ⟨_, _, _, _, _, a, _⟩ := P2; rw [a]; simp
      have n1 : lf ≠ p := fun z => h2p (z ▸ hlf)
      have n2 : lf ≠ l := fun z => h2l (z ▸ hlf)
      have hfd2 := e3.free hfd
      have n3 : fd ≠ p := fun z => h2p (z ▸ hfd2)
      have n4 : fd ≠ l := fun z => h2l (z ▸ hfd2)
      have f1 : H lf = none := e2.free2 hlf (off2 n1 n2)
      have f2 : H fd = none := e2.free2 hfd2 (off2 n3 n4)
      -- the loop
      refine ⟨_, rfl, _, rfl, by omega, by omega, for_range (lo := 0) (n := _) (fun i σ H' => ∃ (L F : List Nat) (y : Option V), σ = [some (.ref p), some (.int c), some (.int r), some (.int top), some (.ref lf), some (.ref fd), y] ∧ H' lf = some (.lst (L.map nV)) ∧ H' fd = some (.lst (F.map nV)) ∧ (F ++ L).Perm (List.range top) ∧ F.length = i ∧ PoolAt H' p l ∧ Ext [p, l] H H')
        ⟨List.range top, [], _, rfl, by rw [upd_ne nlf.symm, upd_same], upd_same, .refl _, rfl, P2.ext0 e4, e2.trans e4.weak⟩ ?_ ?_⟩
      · rintro i σ H' hi ⟨L, F, y, rfl, hL, hF, hperm, hFl, P', e'⟩
        have hi : i < c := by have : ((c : Int)).toNat = c := Int.toNat_natCast _; omega
        have tot : F.length + L.length = top := by have := hperm.length_eq; simpa using this
        have Lpos : 0 < L.length := by omega
        refine ⟨_, rfl, .inl ⟨rfl, _, .of hF⟩, _, rfl, .inl ⟨rfl, _, .of hL⟩, ?_⟩
        -- the index
        refine ⟨fun v H3 => ∃ k : Nat, v = .int k ∧ k < L.length ∧ H3 lf = some (.lst (L.map nV)) ∧ H3 fd = some (.lst (F.map nV)) ∧ PoolAt H3 p l ∧ Ext [p, l] H H3, ?_, ?_⟩
        · refine ⟨_, rfl, _, _, rfl, rfl, _, rfl, ite2 (fun z => ?_) (fun z => ?_)⟩
          · refine ⟨_, rfl, _, rfl, lf, _, rfl, .inl (.of hL), p, l, _, rfl, P', by rw [List.length_map]; omega, by rw [List.length_map]; omega, fun k H3 k0 k1 P3 e3' => ?_⟩
            rw [List.length_map] at k1
            exact ⟨k.toNat, by rw [Int.toNat_of_nonneg k0], by omega, e3' _ _ (off2 n1 n2) hL, e3' _ _ (off2 n3 n4) hF, P3, e'.trans e3'⟩
          · have z : ¬ r < 3 := fun w => z (decide_eq_true w)
            have t100 : top = 100 := by rcases c3 with c3 | c3; exact absurd c3 z; exact c3
            refine ⟨_, rfl, lf, _, rfl, .inl (.of hL), _, _, rfl, rfl, _, rfl, p, l, 3, rfl, P', by decide, by decide, fun k H3 k0 k1 P3 e3' => ?_⟩
            refine ⟨_, _, rfl, rfl, (L.length - 1 - k.toNat), ?_, by omega, e3' _ _ (off2 n1 n2) hL, e3' _ _ (off2 n3 n4) hF, P3, e'.trans e3'⟩
            have e5 : ((L.map nV).length : Int) - 1 - k = ((L.length - 1 - k.toNat : Nat) : Int) := by
              rw [List.length_map]
              omega
            exact congrArg V.int e5
        · rintro v H3 ⟨k, rfl, hk, hL3, hF3, P3, e3'⟩
          have hy : L[k]? = some L[k] := List.getElem?_eq_getElem hk
          generalize L[k] = y at hy
          refine ⟨lf, _, _, k, nV y, rfl, rfl, hL3, by omega, by omega, by rw [List.length_map]; exact seqAt hk, at_map hy, ?_⟩
          have el : (L.map nV).eraseIdx k = (L.eraseIdx k).map nV := eraseIdx_nV nV L k
          rw [el]
          have hF4 : upd H3 lf (.lst ((L.eraseIdx k).map nV)) fd = some (.lst (F.map nV)) := by rw [upd_ne nlf]; exact hF3
          refine ⟨fd, _, _, rfl, rfl, hF4, by rw [List.length_map]; exact small1000 (by omega), L.eraseIdx k, F ++ [y], _, rfl, by rw [upd_ne nlf.symm, upd_same], ?_, ?_, ?_, ?_, ?_⟩
          · rw [upd_same, List.map_append]; rfl
          · rw [List.append_assoc]
            exact (List.Perm.append_left F (erase_perm L k y hy)).trans hperm
          · rw [List.length_append, hFl]; rfl
          · refine P3.ext (L := [lf, fd]) ((Ext.wr (by simp)).trans (.wr (by simp))) ?_ ?_
            · simp [n1.symm, n3.symm]
            · simp [n2.symm, n4.symm]
          · exact (e3'.put' f1).put' f2
      · rintro σ H' ⟨L, F, y, rfl, hL, hF, hperm, hFl, P', e'⟩
        rw [Int.toNat_natCast] at hFl
        have nd : F.Nodup := (List.nodup_append.mp (hperm.nodup_iff.mpr List.nodup_range)).1
        refine ⟨_, rfl, fd, F.map (fun n : Nat => (n : Int)), rfl, .of (by rw [← map_nV_int]; exact hF), by rw [List.length_map]; omega, fun ns t perm rise ht => ?_⟩
        obtain ⟨ms, e1', e2', e3'⟩ := sorted_nats nd perm rise
        rw [e1']
        have ft : H t = none := e'.free2 ht (off2 (fun z => ?_) (fun z => ?_))
        · refine q ms t _ e3' (by rw [e2'.length_eq]; exact hFl) (fun m hm => ?_) upd_same ft (P'.ext (L := [t]) (.wr (by simp)) ?_ ?_) (e'.put' ft)
          · have h1 := hperm.mem_iff.mp (List.mem_append_left L (e2'.mem_iff.mp hm))
            have := List.mem_range.mp h1
            omega
          · obtain ⟨_, _, _, _, a, _⟩ := P'
            simp
            exact fun z => by rw [z, ht] at a; cases a
          · obtain ⟨_, _, _, _, _, a, _⟩ := P'
            simp
            exact fun z => by rw [z, ht] at a; cases a
        · obtain ⟨_, _, _, _, a, _⟩ := P'
          rw [← z, ht] at a; cases a
        · obtain ⟨_, _, _, _, _, a, _⟩ := P'
          rw [← z, ht] at a; cases a
end
end Nv
set_option Elab.async false
set_option linter.all false
set_option maxRecDepth 100000
namespace Nv
open PySem PySem.Spec PyProof.Rows L2
section
variable {P : Program} {w : World} {K : PySem.W.Frag} {mg : Str → Option Value} {base : Heap}
/-! ### the law's books: drawn -/
theorem PoolAt.off {H : Hp} {p l x : Addr} (h : PoolAt H p l) (hx : H x = none) : x ≠ p ∧ x ≠ l := by
  obtain ⟨_, _, _, _, a, b, _⟩ := h
  refine ⟨fun z => ?_, fun z => ?_⟩
  · rw [z, a] at hx
    cases hx
  · rw [z, b] at hx
    cases hx
theorem PoolAt.put {H : Hp} {p l x : Addr} {o : HO} (h : PoolAt H p l) (h1 : x ≠ p) (h2 : x ≠ l) : PoolAt (upd H x o) p l := h.ext (L := [x]) (.wr (by simp)) (by simp; exact h1.symm) (by simp; exact h2.symm)
structure StD (n m : Nat) (s : State) : Prop where
  few : s.length ≤ m
  rise : (s.map (·.1)).Pairwise (· < ·)
  msg : ∀ q ∈ s, q.1 ≤ 99
  to : ∀ q ∈ s, q.2 < n
theorem StD.set {n m : Nat} {s : State} (h : StD n m s) {k : Nat} {q : Nat × Nat} (hq : s[k]? = some q) {t : Nat} (ht : t < n) : StD n m (s.set k (q.1, t)) := by
  have hm := List.mem_of_getElem? hq
  have e : (s.set k (q.1, t)).map (·.1) = s.map (·.1) := by
    rw [List.map_set]
    refine List.ext_getElem? fun i => ?_
    by_cases hi : k = i
    · subst hi
      have hk : k < (s.map (·.1)).length := by
        rw [List.length_map]
        exact (List.getElem?_eq_some_iff.mp hq).1
      rw [List.getElem?_set_self hk, List.getElem?_map, hq]
      rfl
    · rw [List.getElem?_set_ne hi]
  refine ⟨by rw [List.length_set]; exact h.few, by rw [e]; exact h.rise, fun z hz => ?_, fun z hz => ?_⟩
  · rcases List.mem_or_eq_of_mem_set hz with hz | rfl
    · exact h.msg z hz
    · exact h.msg q hm
  · rcases List.mem_or_eq_of_mem_set hz with hz | rfl
    · exact h.to z hz
    · exact ht
theorem sc_law_book_drawn : FnScope ["pool", "states", "most", "size", "way", "moves", "state", "count", "told", "message", "to", "at"] ["pool", "states", "most"] (defScope s_law_book_drawn) := ⟨rfl, rfl, rfl, by decide +kernel, rfl, by decide +kernel, by decide +kernel⟩
def sp_law_book_drawn (K : PySem.W.Frag) : Sp := fun vs H Q _ => ∃ (p l : Addr) (S M : Nat), vs = [.ref p, .int S, .int M] ∧ PoolAt H p l ∧ 1 ≤ S ∧ S ≤ 8 ∧ M ≤ 5 ∧ ∀ (b : Book) (v : V) (H' : Hp), OkB b → b.length ≤ S → (∀ s ∈ b, s.length ≤ M) → BkV K H' v b → PoolAt H' p l → Ext [p, l] H H' → Q v H'
theorem ok_law_book_drawn (T : Tx K mg) : FnOk P w K mg base CX0 3 T.law_book_drawn.f T.law_book_drawn.fd ["pool", "states", "most"] (sp_law_book_drawn K) := by
  refine T.law_book_drawn.F.ok sc_law_book_drawn (fun vs H Q E h => ?_) (fun cdv A outer s H vs Q E hr h => ?_)
  · obtain ⟨p, l, S, M, rfl, _⟩ := h; rfl
  · obtain ⟨p, l, S, M, rfl, hP, hS1, hS8, hM, q⟩ := h
    refine ⟨_, (pss_cons (ps_par3 (i := 3) (j := 4) (l := 5) rfl sc_law_book_drawn.nd rfl rfl rfl (by decide) (by decide) (by decide) rfl rfl rfl (pa_cons (pe_op op_add pe_int (pe_call (ok_law_draw T) (hr.mono (by decide)) (by rfl) T.law_draw.g T.law_draw.F.kp T.law_draw.b .nil pass0 (pa_cons (pv 0) (pa_cons (pv 1) pa_nil)))) (pa_cons (pe_call (ok_law_draw T) (hr.mono (by decide)) (by rfl) T.law_draw.g T.law_draw.F.kp T.law_draw.b .nil pass0 (pa_cons (pv 0) (pa_cons pe_int pa_nil))) (pa_cons (pe_lst pa_nil) pa_nil))) (by rfl))
      (pss_cons (ps_for PassesOwn.never rfl (pi_range1 (by rfl) T.n_range (pa_cons (pv 3) pa_nil)) (pg_name (i := 6) sc_law_book_drawn.nd rfl (.inl rfl))
        (pss_cons (ps_set (i := 7) sc_law_book_drawn.nd rfl (.inl rfl) (pe_call (ok_law_pick T) (hr.mono (by decide)) (by rfl) T.law_pick.g T.law_pick.F.kp T.law_pick.b .nil pass0 (pa_cons (pv 0) (pa_cons (pe_lst (pa_cons pe_int (pa_cons pe_int (pa_cons pe_int (pa_cons pe_int (pa_cons (pe_callB (call_min2 rfl) (by rfl) T.n_min (by decide +kernel) (pa_cons pe_int (pa_cons (pv 2) pa_nil))) (pa_cons (pe_call (ok_law_draw T) (hr.mono (by decide)) (by rfl) T.law_draw.g T.law_draw.F.kp T.law_draw.b .nil pass0 (pa_cons (pv 0) (pa_cons (pe_op op_add (pv 2) pe_int) pa_nil))) pa_nil))))))) pa_nil))))
        (C8.pss_cut (ps_if (PW.pt (pw_and (pt_cmpR op_gt (pv 4) pe_int (nomark _)) (pw_and1 (pt_cmpR op_eq (pv 6) (pe_op op_sub (pv 3) pe_int) (nomark _)))))
          (pss_one (ps_set (i := 7) sc_law_book_drawn.nd rfl (.inl rfl) pe_int))
          pss_nil)
        (pss_cons (ps_set (i := 8) sc_law_book_drawn.nd rfl (.inl rfl) (pe_lst pa_nil))
        (pss_cons (ps_for PassesOwn.never rfl (pi_list (pe_call (ok_law_book_messages T) (hr.mono (by decide)) (by rfl) T.law_book_messages.g T.law_book_messages.F.kp T.law_book_messages.b .nil pass0 (pa_cons (pv 0) (pa_cons (pe_callB (call_min2 rfl) (by rfl) T.n_min (by decide +kernel) (pa_cons (pv 7) (pa_cons (pv 2) pa_nil))) pa_nil)))) (pg_name (i := 9) sc_law_book_drawn.nd rfl (.inl rfl))
          (pss_cons (ps_set (i := 10) sc_law_book_drawn.nd rfl (.inl rfl) (pe_call (ok_law_draw T) (hr.mono (by decide)) (by rfl) T.law_draw.g T.law_draw.F.kp T.law_draw.b .nil pass0 (pa_cons (pv 0) (pa_cons (pv 3) pa_nil))))
          (C8.pss_cut (ps_if (PW.pt (pw_and (pt_cmpR op_gt (pv 4) pe_int (nomark _)) (pw_and1 (pt_cmpR op_lt (pv 6) (pe_op op_sub (pv 3) pe_int) (nomark _)))))
            (pss_one (ps_set (i := 10) sc_law_book_drawn.nd rfl (.inl rfl) (pe_op op_add (pe_op op_add (pv 6) pe_int) (pe_call (ok_law_draw T) (hr.mono (by decide)) (by rfl) T.law_draw.g T.law_draw.F.kp T.law_draw.b .nil pass0 (pa_cons (pv 0) (pa_cons (pe_op op_sub (pe_op op_sub (pv 3) pe_int) (pv 6)) pa_nil))))))
            pss_nil)
          (pss_one (ps_expr (pe_bm PySem.F.plainAttrs_list PySem.F.slot_list_append PySem.F.type_list_append mt_append (pv 8) (pa_cons (pe_tup (pa_cons (pv 9) (pa_cons (pv 10) pa_nil))) pa_nil)))))))
        (C8.pss_cut (ps_if (PW.pt (pw_and (pt_cmpR op_gt (pv 4) pe_int (nomark _)) (pw_and1 (pt_cmpR (op_neD (hr.units)) (pv 8) (pe_lst pa_nil) (nomark _)))))
          (pss_cons (ps_set (i := 11) sc_law_book_drawn.nd rfl (.inl rfl) (pe_call (ok_law_draw T) (hr.mono (by decide)) (by rfl) T.law_draw.g T.law_draw.F.kp T.law_draw.b .nil pass0 (pa_cons (pv 0) (pa_cons (pe_callB call_len_seq (by rfl) T.n_len PySem.boot_len (pa_cons (pv 8) pa_nil)) pa_nil))))
          (pss_one (ps_asg (pe_tup (pa_cons (pe_ix ix_tup (pe_ix ix_list (pv 8) (pv 11) (fun _ _ => rfl)) pe_int (fun _ _ => rfl)) (pa_cons (pe_mid (pe_ifExp (pt_cmpR op_lt (pv 4) pe_int (nomark _)) (pe_op op_mod (pe_callTy call_int1 (by rfl) T.n_int (by decide +kernel) (pa_cons (pe_op op_add (pv 6) pe_int) pa_nil)) (pv 3)) (pe_callB (call_min2 rfl) (by rfl) T.n_min (by decide +kernel) (pa_cons (pe_op op_add (pv 6) pe_int) (pa_cons (pe_op op_sub (pv 3) pe_int) pa_nil))))) pa_nil))) (pg_sub (pv 8) (pv 11) set_list))))
          pss_nil)
        (pss_one (ps_expr (pe_bm PySem.F.plainAttrs_list PySem.F.slot_list_append PySem.F.type_list_append mt_append (pv 5) (pa_cons (pv 8) pa_nil))))))))))
      (pss_one (ps_ret (pe_call (ok_law_book_meeting T) (hr.mono (by decide)) (by rfl) T.law_book_meeting.g T.law_book_meeting.F.kp T.law_book_meeting.b .nil pass0 (pa_cons (pv 5) pa_nil)))))), ?_⟩
    -- size, way, moves
    refine ⟨_, rfl, _, rfl, p, l, _, rfl, hP, by omega, by omega, fun r H1 r0 r1 P1 e1 => ⟨_, _, rfl, rfl, ?_⟩⟩
    refine ⟨_, rfl, p, l, 6, rfl, P1, by decide, by decide, fun way H2 w0 w1 P2 e2 => ⟨Nat.zero_le _, fun mv hmv => ⟨_, _, _, rfl, ?_⟩⟩⟩
    obtain ⟨n, hn⟩ : ∃ n : Nat, 1 + r = (n : Int) := ⟨(1 + r).toNat, by omega⟩
    have hn1 : 1 ≤ n := by omega
    have hnS : n ≤ S := by omega
    show _
    simp only [hn]
    obtain ⟨mp, ml⟩ := P2.off hmv
    have fmv : H mv = none := (e1.trans e2).free2 hmv (off2 mp ml)
    -- the loop
    refine ⟨_, rfl, _, rfl, by omega, by omega, for_range (lo := 0) (n := _) (fun i σ H' => ∃ (vs : List V) (b : Book) (y6 y7 y8 y9 y10 y11 : Option V), σ = [some (.ref p), some (.int S), some (.int M), some (.int n), some (.int way), some (.ref mv), y6, y7, y8, y9, y10, y11] ∧ b.length = i ∧
      H' mv = some (.lst vs) ∧ Paired (LsN K H' [p, l, mv]) vs b ∧ (∀ s ∈ b, StD n M s) ∧ PoolAt H' p l ∧ Ext [p, l] H H')
      ⟨[], [], _, _, _, _, _, _, rfl, rfl, upd_same, .nil, (fun s z => nomatch z), P2.put mp ml, (e1.trans e2).put' fmv⟩ ?_ ?_⟩
    · rintro i σ H' hi ⟨vs, b, y6, y7, y8, y9, y10, y11, rfl, hbl, hv, hpd, hst, P', e'⟩
      have hi : i < n := by have : ((n : Int)).toNat = n := Int.toNat_natCast _; omega
      simp only [Int.zero_add]
      -- count
      refine ⟨_, rfl, _, rfl, _, _, rfl, _, rfl, _, rfl, _, _, rfl, rfl, p, l, _, rfl, P', by omega, by omega, fun c0 H3 c00 c01 P3 e3 => ?_⟩
      refine ⟨(by show 6 ≤ sizeLine; decide), fun t ht => ?_⟩
      obtain ⟨tp, tl⟩ := P3.off ht
      refine ⟨p, l, t, _, rfl, P3.put tp tl, .of upd_same, tp, tl, (by show 0 < 6; decide), (by show 6 < 1000; decide), fun k v H4 hk P4 e4 => ?_⟩
      have hc : ∃ c : Nat, v = .int c ∧ c ≤ 5 := by
        have six : k < 6 := (List.getElem?_eq_some_iff.mp hk).1
        have : k = 0 ∨ k = 1 ∨ k = 2 ∨ k = 3 ∨ k = 4 ∨ k = 5 := by omega
        rcases this with rfl | rfl | rfl | rfl | rfl | rfl
        · exact ⟨1, (Option.some.inj hk).symm, by decide⟩
        · exact ⟨1, (Option.some.inj hk).symm, by decide⟩
        · exact ⟨2, (Option.some.inj hk).symm, by decide⟩
        · exact ⟨2, (Option.some.inj hk).symm, by decide⟩
        · have z := (Option.some.inj hk).symm
          by_cases hm : (M : Int) < 2
          · rw [if_pos hm] at z; exact ⟨M, z, by omega⟩
          · rw [if_neg hm] at z; exact ⟨2, z, by decide⟩
        · exact ⟨c0.toNat, by rw [(Option.some.inj hk).symm, Int.toNat_of_nonneg c00], by omega⟩
      obtain ⟨c, rfl, hc5⟩ := hc
      have e5 : Ext [p, l] H' H4 := (e3.trans (Ext.weak (.new ht))).trans e4
      have hpd4 : Paired (LsN K H4 [p, l, mv]) vs b := Paired.imp hpd fun _ _ z => z.ext e5 (by simp) P'.lsts
      have hv4 := e5 _ _ (off2 mp ml) hv
      have e6 := e'.trans e5
      generalize hH : H4 = H5 at *
      clear hH e5 e4 e3 hk ht P' hv hpd P3
      -- if way > 3 and state == size - 1
      refine ⟨fun σ H' => ∃ c : Nat, c ≤ 5 ∧ H' = H5 ∧ σ = [some (.ref p), some (.int S), some (.int M), some (.int n), some (.int way), some (.ref mv), some (.int i), some (.int c), y8, y9, y10, y11], ?_, ?_⟩
      · refine ⟨_, rfl, _, _, rfl, rfl, _, rfl, ite2 (fun z => ?_) (fun z => iteF ⟨c, hc5, rfl, rfl⟩)⟩
        refine ⟨_, rfl, _, rfl, _, _, rfl, rfl, rfl, _, rfl, ite2 (fun z => ?_) (fun z => ?_)⟩
        · exact ⟨0, by decide, rfl, rfl⟩
        · exact ⟨c, hc5, rfl, rfl⟩
      · rintro σ Hb ⟨c, hc5, rfl, rfl⟩
        -- told = []
        refine ⟨Nat.zero_le _, fun td htd => ?_⟩
        obtain ⟨tdp, tdl⟩ := P4.off htd
        have tdmv : td ≠ mv := fun z => by rw [z, hv4] at htd; cases htd
        have b0 : Ext [p, l] Hb (upd Hb td (.lst [])) := Ext.weak (.new htd)
        -- for message in ..
        have hmin : ∃ d : Nat, (if (M : Int) < (c : Int) then (M : Int) else (c : Int)) = d ∧ d ≤ M ∧ d ≤ 5 := by
          by_cases hm : (M : Int) < (c : Int)
          · rw [if_pos hm]; exact ⟨M, rfl, Nat.le_refl _, hM⟩
          · rw [if_neg hm]; exact ⟨c, rfl, by omega, hc5⟩
        obtain ⟨d, hd, hdM, hd5⟩ := hmin
        refine ⟨_, rfl, _, rfl, _, rfl, _, _, rfl, p, l, d, by rw [hd]; rfl, P4.put tdp tdl, by omega, fun ms t H6 m1 m2 m3 ht tfree P6 e6' => ?_⟩
        have b1 := b0.trans e6'
        have ttd : t ≠ td := fun z => by rw [z, upd_same] at tfree; cases tfree
        obtain ⟨ttp, ttl⟩ := (P4.put (o := .lst []) tdp tdl).off tfree
        have htd6 : H6 td = some (.lst []) := e6' _ _ (off2 tdp tdl) upd_same
        refine ⟨t, rfl, ⟨_, .of ht⟩, for_list (K := K) (a := t) (xs := ms.map nV) (fun k σ H' => ∃ (ps : List Addr) (tl : State) (y9 y10 : Option V), σ = [some (.ref p), some (.int S), some (.int M), some (.int n), some (.int way), some (.ref mv), some (.int i), some (.int c), some (.ref td), y9, y10, y11] ∧
          H' td = some (.lst (ps.map V.ref)) ∧ Paired (MvV K H') ps tl ∧ tl.map (·.1) = ms.take k ∧ (∀ z ∈ tl, z.2 < n) ∧ H' t = some (.lst (ms.map nV)) ∧ PoolAt H' p l ∧ Ext [p, l] Hb H')
          ⟨[], [], _, _, rfl, htd6, .nil, by simp, (fun z hz => nomatch hz), ht, P6, b1⟩ (fun k σ H' _ ⟨_, _, _, _, _, _, _, _, _, h, _⟩ => .of h) ?_ ?_⟩
        · rintro k v σ H' hv ⟨ps, tl, y9, y10, rfl, htd', hps, hmap, hto, ht', P', e8⟩
          obtain ⟨m, hm, rfl⟩ := map_at hv
          have ntd : td ∉ [p, l] := off2 tdp tdl
          have nt : t ∉ [p, l] := off2 ttp ttl
          refine ⟨_, rfl, _, rfl, p, l, _, rfl, P', by omega, by omega, fun t0 H7 t00 t01 P7 e7 => ?_⟩
          refine ⟨fun σ H8 => ∃ u : Nat, u < n ∧ σ = [some (.ref p), some (.int S), some (.int M), some (.int n), some (.int way), some (.ref mv), some (.int i), some (.int c), some (.ref td), some (nV m), some (.int u), y11] ∧ PoolAt H8 p l ∧ Ext [p, l] H7 H8, ?_, ?_⟩
          · have stay : ∃ u : Nat, u < n ∧ ([some (.ref p), some (.int S), some (.int M), some (.int n), some (.int way), some (.ref mv), some (.int i), some (.int c), some (.ref td), some (nV m), some (.int t0), y11] : L2.St) = [some (.ref p), some (.int S), some (.int M), some (.int n), some (.int way), some (.ref mv), some (.int i), some (.int c), some (.ref td), some (nV m), some (.int u), y11] ∧ PoolAt H7 p l ∧ Ext [p, l] H7 H7 :=
              ⟨t0.toNat, by omega, by rw [Int.toNat_of_nonneg t00], P7, .refl⟩
            refine ⟨_, rfl, _, _, rfl, rfl, _, rfl, ite2 (fun z => ?_) (fun z => iteF stay)⟩
            refine ⟨_, rfl, _, rfl, _, _, rfl, rfl, _, _, rfl, rfl, _, rfl, ite2 (fun z2 => ?_) (fun z2 => stay)⟩
            have z2 := of_decide_eq_true z2
            refine ⟨_, rfl, _, _, rfl, rfl, _, rfl, _, rfl, _, _, rfl, rfl, _, rfl, _, _, rfl, rfl, p, l, _, rfl, P7, by omega, by omega, fun r8 H8 r80 r81 P8 e8 => ⟨_, _, rfl, rfl, ?_⟩⟩
            have eu : (i : Int) + 1 + r8 = ((i + 1 + r8.toNat : Nat) : Int) := by omega
            exact ⟨i + 1 + r8.toNat, by omega, congrArg (fun z : Int => ([some (.ref p), some (.int S), some (.int M), some (.int n), some (.int way), some (.ref mv), some (.int i), some (.int c), some (.ref td), some (nV m), some (.int z), y11] : L2.St)) eu, P8, e8⟩
          · rintro σ H8 ⟨u, hu, rfl, P8, e9⟩
            have e10 := e7.trans e9
            have htd8 := e10 _ _ ntd htd'
            have ht8 := e10 _ _ nt ht'
            have hps8 : Paired (MvV K H8) ps tl := Paired.imp hps fun _ _ z => e10.tup P'.lsts z
            refine ⟨_, rfl, .inl ⟨rfl, _, .of htd8⟩, _, rfl, _, rfl, (by show 2 ≤ sizeLine; decide), fun nt' hnt => ?_⟩
            have e11 : Ext [] H8 (upd H8 nt' (.tup [nV m, .int u])) := .new hnt
            have htd9 := e11.at htd8 (by simp)
            obtain ⟨ntp, ntl⟩ := P8.off hnt
            have tll : tl.length ≤ 6 := by
              have := congrArg List.length hmap
              rw [List.length_map, List.length_take] at this
              omega
            refine ⟨td, _, _, rfl, rfl, htd9, by rw [List.length_map, Paired.len hps]; exact small1000 (by omega), ps ++ [nt'], tl ++ [(m, u)], _, _, rfl, by rw [upd_same, List.map_append]; rfl, ?_, ?_, fun z hz => ?_, ?_, ?_, ?_⟩
            · refine Paired.snoc ?_ (Paired.imp hps8 fun _ _ z => (z.ext0 e11).put htd9)
              exact MvV.put (m := (m, u)) (.of upd_same) htd9
            · rw [List.take_add_one, hm, List.map_append, hmap]
              rfl
            · rcases List.mem_append.mp hz with hz | hz
              · exact hto z hz
              · obtain rfl := List.mem_singleton.mp hz
                exact hu
            · rw [upd_ne ttd]
              exact e11.at ht8 (by simp)
            · exact (P8.put ntp ntl).put tdp tdl
            · exact ((e8.trans e10).trans e11.weak).put' htd
        · rintro σ H7 ⟨ps, tl, y9, y10, rfl, htd7, hps, hmap, hto, ht7, P7, e7⟩
          rw [List.length_map, List.take_length] at hmap
          have tll : tl.length = d := by
            have := congrArg List.length hmap
            rw [List.length_map] at this
            omega
          have sd : StD n M tl := ⟨by omega, by rw [hmap]; exact m1, fun z hz => m3 _ (by rw [← hmap]; exact List.mem_map.mpr ⟨z, hz, rfl⟩), hto⟩
          refine ⟨fun σ H8 => ∃ (ps : List Addr) (tl : State) (y9 y10 y11 : Option V), σ = [some (.ref p), some (.int S), some (.int M), some (.int n), some (.int way), some (.ref mv), some (.int i), some (.int c), some (.ref td), y9, y10, y11] ∧
            H8 td = some (.lst (ps.map V.ref)) ∧ Paired (MvV K H8) ps tl ∧ StD n M tl ∧ PoolAt H8 p l ∧ Ext [p, l] Hb H8, ?_, ?_⟩
          · refine ⟨_, rfl, _, _, rfl, rfl, _, rfl, ite2 (fun z => ?_) (fun z => iteF ⟨ps, tl, _, _, _, rfl, htd7, hps, sd, P7, e7⟩)⟩
            refine ⟨_, rfl, Nat.zero_le _, fun x hx => ?_⟩
            have e8 : Ext [] H7 (upd H7 x (.lst [])) := .new hx
            have htd8 := e8.at htd7 (by simp)
            have hps8 : Paired (MvV K (upd H7 x (.lst []))) ps tl := Paired.imp hps fun _ _ z => z.ext0 e8
            have P8 := P7.ext0 e8
            refine ⟨_, _, .lst (.of htd8) (dp_mvs hps8), .lst (.of upd_same) .nil, shaped_mvs _, by decide, _, rfl, ?_⟩
            rw [eqv_mvs_nil]
            by_cases ee : tl = []
            · rw [decide_eq_true ee]
              exact iteF ⟨ps, tl, _, _, _, rfl, htd8, hps8, sd, P8, e7.trans e8.weak⟩
            · rw [decide_eq_false ee]
              have plen := Paired.len hps
              have tpos : 0 < tl.length := List.length_pos_iff.mpr ee
              refine iteT ⟨_, rfl, _, rfl, td, _, rfl, .inl (.of htd8), p, l, _, rfl, P8, by rw [List.length_map]; omega, by rw [List.length_map]; omega, fun k H9 k0 k1 P9 e9 => ?_⟩
              rw [List.length_map] at k1
              obtain ⟨k, rfl⟩ : ∃ j : Nat, k = (j : Int) := ⟨k.toNat, by omega⟩
              have hk : k < tl.length := by omega
              have hq : tl[k]? = some tl[k] := List.getElem?_eq_getElem hk
              generalize tl[k] = qq at hq
              have htd9 := e9 _ _ (off2 tdp tdl) htd8
              have hps9 : Paired (MvV K H9) ps tl := Paired.imp hps8 fun _ _ z => e9.tup P8.lsts z
              obtain ⟨a, ha, haq⟩ := Paired.get hps9 hq
              refine ⟨_, rfl, _, rfl, td, _, _, _, rfl, rfl, .of htd9, atI_nat (at_map ha), a, _, _, _, rfl, rfl, haq, atI_nat (j := 0) rfl, ?_⟩
              refine ⟨fun v H' => H' = H9 ∧ ∃ u : Nat, u < n ∧ v = .int u, ?_, ?_⟩
              · refine ⟨_, rfl, _, _, rfl, rfl, _, rfl, ite2 (fun z => ?_) (fun z => ?_)⟩
                · refine ⟨_, rfl, _, _, rfl, rfl, .inl ⟨_, rfl, _, rfl, _, _, rfl, rfl, (by show (0 : Int) < n; omega), rfl, (((i : Int) + 1) % n).toNat, ?_, ?_⟩⟩
                  · have := Int.emod_lt_of_pos ((i : Int) + 1) (show (0 : Int) < n by omega)
                    have := Int.emod_nonneg ((i : Int) + 1) (show (n : Int) ≠ 0 by omega)
                    omega
                  · show V.int (((i : Int) + 1) % n) = _
                    rw [Int.toNat_of_nonneg (Int.emod_nonneg _ (by omega))]
                · refine ⟨_, rfl, _, _, rfl, rfl, _, rfl, _, _, rfl, rfl, _, _, rfl, rfl, ?_⟩
                  by_cases hm : (n : Int) - 1 < (i : Int) + 1
                  · rw [if_pos hm]
                    exact ⟨n - 1, by omega, congrArg V.int (by omega)⟩
                  · rw [if_neg hm]
                    exact ⟨i + 1, by omega, rfl⟩
              · rintro v H' ⟨rfl, u, hu, rfl⟩
                refine ⟨(by show 2 ≤ sizeLine; decide), fun nt hnt => ?_⟩
                have e10 : Ext [] H' (upd H' nt (.tup [.int qq.1, .int u])) := .new hnt
                have htd10 := e10.at htd9 (by simp)
                obtain ⟨ntp, ntl⟩ := P9.off hnt
                refine ⟨_, rfl, _, rfl, td, _, _, k, rfl, rfl, htd10, ixNat (by rw [List.length_map]; omega), ps.set k nt, tl.set k (qq.1, u), _, _, _, rfl, ?_, ?_, sd.set hq hu, (P9.put ntp ntl).put tdp tdl, ((((e7.trans e8.weak).trans e9).trans e10.weak)).put' htd⟩
                · rw [upd_same, List.map_set]
                · refine Paired.set ?_ k (Paired.imp hps9 fun _ _ z => (z.ext0 e10).put htd10)
                  exact MvV.put (m := (qq.1, u)) (.of upd_same) htd10
          · rintro σ H8 ⟨ps, tl, y9, y10, y11, rfl, htd8, hps8, sd8, P8, e8⟩
            have hmv8 := e8 _ _ (off2 mp ml) hv4
            have hpd8 : Paired (LsN K H8 [p, l, mv]) vs b := Paired.imp hpd4 fun _ _ z => z.ext e8 (by simp) P4.lsts
            have l3 : Lsts [mv] H8 := one_lst hmv8
            refine ⟨_, rfl, .inl ⟨rfl, _, .of hmv8⟩, _, rfl, mv, _, _, rfl, rfl, hmv8, by rw [Paired.len hpd8]; exact small1000 (by omega), vs ++ [.ref td], b ++ [tl], _, _, _, _, _, _, rfl, by rw [List.length_append, hbl]; rfl, upd_same, ?_, fun s hs => ?_, P8.put mp ml, (e6.trans e8).put' fmv⟩
            · refine Paired.snoc ⟨td, ps, rfl, ?_, by rw [upd_ne tdmv]; exact htd8, Paired.imp hps8 fun _ _ z => z.put hmv8⟩ (Paired.imp hpd8 fun _ _ z => z.ext (Y := [mv]) (.wr (by simp)) (by simp) l3)
              simp [tdp, tdl, tdmv]
            · rcases List.mem_append.mp hs with hs | hs
              · exact hst s hs
              · obtain rfl := List.mem_singleton.mp hs
                exact sd8
    · rintro σ H' ⟨vs, b, y6, y7, y8, y9, y10, y11, rfl, hbl, hv, hpd, hst, P', e'⟩
      rw [Int.toNat_natCast] at hbl
      have hlb : LbV K H' (.ref mv) b := ⟨mv, vs, rfl, hv, Paired.imp hpd fun _ _ z => z.ls⟩
      have sd : ∀ s, StD n M (mvs b s) := fun s => by
        by_cases hs : s < b.length
        · exact hst _ (mvs_mem hs)
        · rw [mvs_out (by omega)]
          exact ⟨Nat.zero_le _, .nil, (fun z hz => nomatch hz), fun z hz => nomatch hz⟩
      refine ⟨_, rfl, .ref mv, b, rfl, hlb, by omega, by omega, fun s => ⟨Nat.le_trans (sd s).few (by omega), fun z hz => by rw [hbl]; exact (sd s).to z hz⟩, fun F v H3 mt hbk e3 => ?_⟩
      have ok := mt.okB (by omega) fun s hs => ⟨Nat.le_trans (sd s).few hM, (sd s).rise, (sd s).msg⟩
      refine q _ v _ ok (by rw [rename_len]; have := nodup_le mt.nd mt.lt; omega) (fun s hs => ?_) hbk (P'.ext0 e3) (e'.trans e3.weak)
      obtain ⟨x, _, rfl⟩ := List.mem_map.mp hs
      rw [List.length_map]
      exact (sd x).few
end
end Nv
set_option Elab.async false
set_option linter.all false
set_option maxRecDepth 100000
namespace Nv
open PySem PySem.Spec PyProof.Rows L2
section
variable {P : Program} {w : World} {K : PySem.W.Frag} {mg : Str → Option Value} {base : Heap}
/-! ### the program: books held -/
theorem notF {c : Bool} {A B : Prop} (h : c = true) (hb : B) : if (!c) = true then A else B := by
  rw [h]
  exact iteF hb
theorem sc_has_state_form : FnScope ["thing", "many", "last", "pair", "message", "to"] ["thing", "many"] (defScope s_has_state_form) := ⟨rfl, rfl, rfl, by decide +kernel, rfl, by decide +kernel, by decide +kernel⟩
def sp_has_state_form (K : PySem.W.Frag) : Sp := fun vs H Q _ => ∃ (v : V) (s : State) (n : Nat), vs = [v, .int n] ∧ StV K H v s ∧ StOk n s ∧ Q (.bl true) H
theorem ok_has_state_form (T : Tx K mg) : FnOk P w K mg base CX0 3 T.has_state_form.f T.has_state_form.fd ["thing", "many"] (sp_has_state_form K) := by
  refine T.has_state_form.F.ok sc_has_state_form (fun vs H Q E h => ?_) (fun cdv A outer s H vs Q E hr h => ?_)
  · obtain ⟨v, s, n, rfl, _⟩ := h; rfl
  · obtain ⟨v, st, n, rfl, ⟨a, ps, rfl, ha, hps⟩, ok, q⟩ := h
    have plen := Paired.len hps
    refine ⟨_, (pss_cons (ps_if (pt_not (pt_val (pe_call (ok_tuple_within T) (hr.mono (by decide)) (by rfl) T.tuple_within.g T.tuple_within.F.kp T.tuple_within.b .nil pass0 (pa_cons (pv 0) (pa_cons pe_int (pa_cons (pe_glob (v := .int 5) (by rfl) T.c_MOST_MESSAGES.choose_spec ⟨_, rfl⟩) pa_nil))))))
        (pss_one (ps_ret pe_bl))
        pss_nil)
      (pss_cons (ps_set (i := 2) sc_has_state_form.nd rfl (.inl rfl) (pe_un un_neg pe_int))
      (pss_cons (ps_for PassesOwn.never rfl (pi_tup (pv 0)) (pg_name (i := 3) sc_has_state_form.nd rfl (.inl rfl))
        (pss_cons (ps_if (pt_not (pt_val (pe_call (ok_tuple_within T) (hr.mono (by decide)) (by rfl) T.tuple_within.g T.tuple_within.F.kp T.tuple_within.b .nil pass0 (pa_cons (pv 3) (pa_cons pe_int (pa_cons pe_int pa_nil))))))
          (pss_one (ps_ret pe_bl))
          pss_nil)
        (pss_cons (ps_asg (pv 3) (pg_tup rfl (pgs_cons (pg_name (i := 4) sc_has_state_form.nd rfl (.inl rfl)) (pgs_cons (pg_name (i := 5) sc_has_state_form.nd rfl (.inl rfl)) pgs_nil))))
        (pss_cons (ps_if (PW.pt (pw_or (pt_not (pt_val (pe_call (ok_whole_within T) (hr.mono (by decide)) (by rfl) T.whole_within.g T.whole_within.F.kp T.whole_within.b .nil pass0 (pa_cons (pv 4) (pa_cons (pe_op op_add (pv 2) pe_int) (pa_cons (pe_glob (v := .int 99) (by rfl) T.c_GREATEST_MESSAGE.choose_spec ⟨_, rfl⟩) pa_nil)))))) (pw_or1 (pt_not (pt_val (pe_call (ok_whole_within T) (hr.mono (by decide)) (by rfl) T.whole_within.g T.whole_within.F.kp T.whole_within.b .nil pass0 (pa_cons (pv 5) (pa_cons pe_int (pa_cons (pe_op op_sub (pv 1) pe_int) pa_nil)))))))))
          (pss_one (ps_ret pe_bl))
          pss_nil)
        (pss_one (ps_set (i := 2) sc_has_state_form.nd rfl (.inl rfl) (pv 4)))))))
      (pss_one (ps_ret pe_bl))))), ?_⟩
    refine ⟨_, rfl, a, _, 0, 5, rfl, ha.sq, SqT.ty ha.sq, _, rfl, notF (decide_eq_true ⟨by omega, ?_⟩) ?_⟩
    · rw [List.length_map, plen]
      have := ok.few
      omega
    refine ⟨1, rfl, _, rfl, a, rfl, ⟨_, ha.sq⟩, for_tup (K := K) (a := a) (xs := ps.map V.ref) (fun k σ H' => H' = H ∧ ∃ (z : Int) (y3 y4 y5 : Option V), σ = [some (.ref a), some (.int n), some (.int z), y3, y4, y5] ∧ ∀ j q, k ≤ j → st[j]? = some q → z < (q.1 : Int))
      ⟨rfl, -1, _, _, _, rfl, fun j q _ _ => by omega⟩ (fun k σ H' _ ⟨e, _⟩ => by rw [e]; exact ha.sq) ?_ ?_⟩
    · rintro k v σ H' hv ⟨rfl, z, y3, y4, y5, rfl, hz⟩
      obtain ⟨c, hc, rfl⟩ := map_at hv
      obtain ⟨p, hp, hcp⟩ := Paired.get' hps hc
      have hm := List.mem_of_getElem? hp
      refine ⟨_, rfl, c, _, 2, 2, rfl, hcp, SqT.ty hcp, _, rfl, notF (by show decide ((2 : Int) ≤ 2 ∧ (2 : Int) ≤ 2) = true; decide) ?_⟩
      refine ⟨_, rfl, c, _, rfl, hcp, rfl, _, _, rfl, _, _, rfl, rfl, ?_⟩
      have b1 := hz k p (Nat.le_refl _) hp
      have b2 := ok.msg p hm
      have b3 := ok.to p hm
      refine ⟨_, rfl, _, rfl, _, _, rfl, rfl, _, _, _, rfl, _, rfl, notF (decide_eq_true ⟨by omega, by omega⟩) ?_⟩
      refine ⟨_, rfl, _, rfl, _, _, rfl, rfl, _, _, _, rfl, _, rfl, notF (decide_eq_true ⟨by omega, by omega⟩) ?_⟩
      refine ⟨_, rfl, rfl, _, _, _, _, rfl, fun j q hj hq => ?_⟩
      obtain ⟨hk, ek⟩ := List.getElem?_eq_some_iff.mp hp
      obtain ⟨hj2, ej⟩ := List.getElem?_eq_some_iff.mp hq
      have := List.pairwise_iff_getElem.mp ok.rise k j (by rw [List.length_map]; exact hk) (by rw [List.length_map]; exact hj2) (by omega)
      rw [List.getElem_map, List.getElem_map, ek, ej] at this
      omega
    · rintro σ H' ⟨rfl, z, y3, y4, y5, rfl, hz⟩
      exact q
theorem sc_check_form : FnScope ["thing", "state"] ["thing"] (defScope s_check_form) := ⟨rfl, rfl, rfl, by decide +kernel, rfl, by decide +kernel, by decide +kernel⟩
def sp_check_form (K : PySem.W.Frag) : Sp := fun vs H Q _ => ∃ (v : V) (b : Book), vs = [v] ∧ BkV K H v b ∧ FormB b ∧ Q .non H
theorem ok_check_form (T : Tx K mg) : FnOk P w K mg base CX0 4 T.check_form.f T.check_form.fd ["thing"] (sp_check_form K) := by
  refine T.check_form.F.ok sc_check_form (fun vs H Q E h => ?_) (fun cdv A outer s H vs Q E hr h => ?_)
  · obtain ⟨v, b, rfl, _⟩ := h; rfl
  · obtain ⟨v, b, rfl, ⟨a, ls, rfl, ha, hls⟩, ok, q⟩ := h
    have llen := Paired.len hls
    refine ⟨_, (pss_cons (ps_if (pt_not (pt_val (pe_call (ok_tuple_within T) (hr.mono (by decide)) (by rfl) T.tuple_within.g T.tuple_within.F.kp T.tuple_within.b .nil pass0 (pa_cons (pv 0) (pa_cons pe_int (pa_cons (pe_glob (v := .int 8) (by rfl) T.c_MOST_STATES.choose_spec ⟨_, rfl⟩) pa_nil))))))
        (pss_one ps_never)
        pss_nil)
      (pss_one (ps_for PassesOwn.never rfl (pi_range1 (by rfl) T.n_range (pa_cons (pe_callB call_len_seq (by rfl) T.n_len PySem.boot_len (pa_cons (pv 0) pa_nil)) pa_nil)) (pg_name (i := 1) sc_check_form.nd rfl (.inl rfl))
        (pss_one (ps_if (pt_not (pt_val (pe_call (ok_has_state_form T) (hr.mono (by decide)) (by rfl) T.has_state_form.g T.has_state_form.F.kp T.has_state_form.b .nil pass0 (pa_cons (pe_ix ix_tup (pv 0) (pv 1) (fun _ _ => rfl)) (pa_cons (pe_callB call_len_seq (by rfl) T.n_len PySem.boot_len (pa_cons (pv 0) pa_nil)) pa_nil)))))
          (pss_one ps_never)
          pss_nil))))), ?_⟩
    refine ⟨_, rfl, a, _, 1, 8, rfl, ha, SqT.ty ha, _, rfl, notF (decide_eq_true ?_) ?_⟩
    · have h1 := ok.one
      have h2 := ok.eight
      rw [llen]
      exact ⟨by omega, by omega⟩
    have h2 := ok.eight
    refine ⟨_, rfl, a, _, rfl, .inr ha, _, rfl, by omega, by omega, for_range (lo := 0) (n := _) (fun k σ H' => H' = H ∧ ∃ y : Option V, σ = [some (.ref a), y]) ⟨rfl, _, rfl⟩ ?_ ?_⟩
    · rintro k σ H' hk ⟨rfl, y, rfl⟩
      simp only [Int.zero_add]
      rw [Int.toNat_natCast] at hk
      obtain ⟨u, hu, hst⟩ := Paired.get hls (mvs_lt (b := b) (s := k) (by omega))
      refine ⟨_, rfl, _, rfl, a, _, _, _, rfl, rfl, ha, atI_nat hu, _, rfl, a, _, rfl, .inr ha, u, _, b.length, by rw [llen]; rfl, hst, ok.ok (by omega), _, rfl, notF rfl ⟨rfl, _, rfl⟩⟩
    · rintro σ H' ⟨rfl, y, rfl⟩
      exact q
theorem sc_first_rows : FnScope ["states", "start", "rows", "order", "done", "state", "message", "to"] ["states", "start"] (defScope s_first_rows) := ⟨rfl, rfl, rfl, by decide +kernel, rfl, by decide +kernel, by decide +kernel⟩
def sp_first_rows (K : PySem.W.Frag) : Sp := fun vs H Q _ => ∃ (v : V) (b : Book), vs = [v, .int 0] ∧ BkW K H v b ∧ FormB b ∧ ∀ (F : List Nat) (kvs : List (Key × V)) (d : Addr) (H' : Hp), Met b F → kvs.map (·.1) = F.map kN → H' d = some (.dK kvs) → Ext [] H H' → Q (.ref d) H'
theorem ok_first_rows (T : Tx K mg) : FnOk P w K mg base CX0 1 T.first_rows.f T.first_rows.fd ["states", "start"] (sp_first_rows K) := by
  refine T.first_rows.F.ok sc_first_rows (fun vs H Q E h => ?_) (fun cdv A outer s H vs Q E hr h => ?_)
  · obtain ⟨v, b, rfl, _⟩ := h; rfl
  · obtain ⟨v, b, rfl, ⟨a, ls, rfl, ha, hls⟩, ok, q⟩ := h
    have llen := Paired.len hls
    have h8 := ok.eight
    refine ⟨_, (pss_cons (ps_set (i := 2) sc_first_rows.nd rfl (.inl rfl) (pe_disp (pps_cons (pv 1) (pe_tup pa_nil) pps_nil) (by rfl) (by rfl) (fun z => by cases z) (by decide)))
      (pss_cons (ps_set (i := 3) sc_first_rows.nd rfl (.inl rfl) (pe_lst (pa_cons (pv 1) pa_nil)))
      (pss_cons (ps_set (i := 4) sc_first_rows.nd rfl (.inl rfl) pe_int)
      (pss_cons (ps_while PassesOwn.never (pt_cmpR op_lt (pv 4) (pe_callB call_len_seq (by rfl) T.n_len PySem.boot_len (pa_cons (pv 3) pa_nil)) (nomark _))
        (pss_cons (ps_set (i := 5) sc_first_rows.nd rfl (.inl rfl) (pe_ix ix_list (pv 3) (pv 4) (fun _ _ => rfl)))
        (pss_cons (ps_aug (i := 4) sc_first_rows.nd rfl (.inl rfl) pe_int ip_add)
        (pss_one (ps_for PassesOwn.never rfl (pi_tup (pe_ix ix_tup (pv 0) (pv 5) (fun _ _ => rfl))) (pg_tup rfl (pgs_cons (pg_name (i := 6) sc_first_rows.nd rfl (.inl rfl)) (pgs_cons (pg_name (i := 7) sc_first_rows.nd rfl (.inl rfl)) pgs_nil)))
          (pss_one (ps_if (pt_cmp (pc_dnotin (hu_of hr) (pv 7) (pv 2)))
            (pss_cons (ps_dput (hu_of hr) (pv 2) (pv 7) (pe_op op_catA (pe_dget (hu_of hr) (pv 2) (pv 5) (fun _ _ => rfl)) (pe_tup (pa_cons (pv 6) pa_nil))) rfl)
            (pss_one (ps_expr (pe_bm PySem.F.plainAttrs_list PySem.F.slot_list_append PySem.F.type_list_append mt_append (pv 3) (pa_cons (pv 7) pa_nil)))))
            pss_nil)))))))
      (pss_one (ps_ret (pv 2))))))), ?_⟩
    -- rows = {0: ()}
    refine fun d hd => ⟨_, rfl, Nat.zero_le _, fun t ht => ?_⟩
    have e1 : Ext [] H (upd H d (.dK [])) := .new hd
    have e2 := e1.trans (Ext.new (L := []) (o := .tup []) ht)
    have dt : d ≠ t := fun z => by rw [← z, upd_same] at ht; cases ht
    refine ⟨by rw [upd_ne dt, upd_same], [(kN 0, .ref t)], rfl, (by show 1 ≤ 15; decide), ?_⟩
    have e3 := e2.put (o := .dK (mergeK [] [(kN 0, .ref t)])) hd
    have hd3 : upd (upd (upd H d (.dK [])) t (.tup [])) d (.dK (mergeK [] [(kN 0, .ref t)])) d = some (.dK [(kN 0, .ref t)]) := upd_same
    have ht3 : upd (upd (upd H d (.dK [])) t (.tup [])) d (.dK (mergeK [] [(kN 0, .ref t)])) t = some (.tup []) := by rw [upd_ne dt.symm, upd_same]
    generalize upd (upd (upd H d (.dK [])) t (.tup [])) d (.dK (mergeK [] [(kN 0, .ref t)])) = H3 at *
    -- order = [0]
    refine ⟨_, rfl, (by show 1 ≤ sizeLine; decide), fun o ho => ?_⟩
    have ho0 : H o = none := e3.free ho
    have od : d ≠ o := ne_of_none hd3 ho
    have e4 := e3.put2 (o := .lst [.int 0]) ho
    -- the loop
    let Row : Hp → Nat → V → Prop := fun H' m v => ∃ (x : Addr) (xs : List V), v = .ref x ∧ SqT K H' x xs ∧ xs.length ≤ m
    refine ⟨fun m σ H' => ∃ (F : List Nat) (kvs : List (Key × V)) (i : Nat) (y4 y5 y6 : Option V), σ = [some (.ref a), some (.int 0), some (.ref d), some (.ref o), some (.int i), y4, y5, y6] ∧ MetI b F i ∧ m = b.length - i ∧ H' o = some (.lst (F.map nV)) ∧ H' d = some (.dK kvs) ∧ kvs.map (·.1) = F.map kN ∧ (∀ e ∈ kvs, Row H' F.length e.2) ∧ Ext [] H H',
      ⟨_, [0], [(kN 0, .ref t)], 0, _, _, _, rfl, .first ok.one, rfl, upd_same, by rw [upd_ne od]; exact hd3, rfl, fun e he => ?_, e4⟩, ?_⟩
    · obtain rfl := List.mem_singleton.mp he
      have ot : t ≠ o := ne_of_none ht3 ho
      exact ⟨t, [], rfl, .of (by rw [upd_ne ot]; exact ht3), Nat.zero_le _⟩
    rintro m σ H' ⟨F, kvs, i, y4, y5, y6, rfl, mi, rfl, hF, hD, hk, hrow, e⟩
    have Fle : F.length ≤ b.length := nodup_le mi.nd mi.lt
    refine ⟨_, rfl, _, rfl, o, _, rfl, .inl (.of hF), _, _, rfl, rfl, _, rfl, ite2 (fun z => ?_) (fun z => ?_)⟩
    · have z := of_decide_eq_true z
      rw [List.length_map] at z
      have hiF : i < F.length := by omega
      have hs : F[i]? = some F[i] := List.getElem?_eq_getElem hiF
      generalize F[i] = x at hs
      have hx : x < b.length := mi.lt x (List.mem_of_getElem? hs)
      obtain ⟨u, hu, c, ps, rfl, hc, hps⟩ := Paired.get hls (mvs_lt hx)
      have plen := Paired.len hps
      refine ⟨fun σ H' => ∃ (F : List Nat) (kvs : List (Key × V)) (y4 y5 y6 : Option V), σ = [some (.ref a), some (.int 0), some (.ref d), some (.ref o), some (.int (i + 1 : Nat)), y4, y5, y6] ∧ MetI b F (i + 1) ∧ H' o = some (.lst (F.map nV)) ∧ H' d = some (.dK kvs) ∧ kvs.map (·.1) = F.map kN ∧ (∀ e ∈ kvs, Row H' F.length e.2) ∧ Ext [] H H', ?_, ?_⟩
      · rintro σ' H' ⟨F, kvs, y4, y5, y6, rfl, mi, r⟩
        exact ⟨b.length - (i + 1), by omega, F, kvs, i + 1, _, _, _, rfl, mi, rfl, r⟩
      refine ⟨_, rfl, _, rfl, o, _, _, _, rfl, rfl, .of hF, atI_nat (at_map hs), ?_⟩
      refine ⟨_, rfl, _, _, rfl, rfl, ?_⟩
      refine ⟨_, rfl, _, rfl, a, _, _, _, rfl, rfl, e.tup Lsts.nil ha, atI_nat hu, c, rfl, ⟨_, (e.tup Lsts.nil hc)⟩, ?_⟩
      refine for_tup (K := K) (a := c) (xs := ps.map V.ref) (fun k σ H' => ∃ (F : List Nat) (kvs : List (Key × V)) (y5 y6 : Option V), σ = [some (.ref a), some (.int 0), some (.ref d), some (.ref o), some (.int ((i : Int) + 1)), some (nV x), y5, y6] ∧ MetW b F i x k ∧ H' o = some (.lst (F.map nV)) ∧ H' d = some (.dK kvs) ∧ kvs.map (·.1) = F.map kN ∧ (∀ e ∈ kvs, Row H' F.length e.2) ∧ Ext [] H H')
        ⟨F, kvs, _, _, rfl, mi.begin hs, hF, hD, hk, hrow, e⟩ (fun k σ H' _ ⟨_, _, _, _, _, _, _, _, _, _, e⟩ => (e.tup Lsts.nil hc)) ?_ ?_
      · rintro k v σ H' hv ⟨F, kvs, y5, y6, rfl, mw, hF, hD, hk, hrow, e⟩
        obtain ⟨g, hg, rfl⟩ := map_at hv
        obtain ⟨p, hp, hcp⟩ := Paired.get' hps hg
        have hcp := hcp.ext0 e
        have Fle : F.length ≤ b.length := nodup_le mw.nd mw.lt
        have pb : p.2 < b.length := ok.to (List.mem_of_getElem? hp)
        refine ⟨g, _, rfl, hcp, rfl, _, _, rfl, _, _, rfl, rfl, ?_⟩
        refine ⟨_, rfl, _, rfl, d, _, rfl, DGet.k (k := kN p.2) hD, _, rfl, ?_⟩
        rw [valV_key hk]
        by_cases hin : p.2 ∈ F
        · rw [decide_eq_true hin]
          exact iteF ⟨F, kvs, _, _, rfl, mw.skip hp hin, hF, hD, hk, hrow, e⟩
        · rw [decide_eq_false hin]
          refine iteT ?_
          -- rows[state] + (message,)
          have xin : x ∈ F := List.mem_of_getElem? mw.here
          have hsome : (valV kvs (kN x)).isSome = true := by rw [valV_key hk]; exact decide_eq_true xin
          obtain ⟨rv, hrv⟩ := Option.isSome_iff_exists.mp hsome
          obtain ⟨r, rs, er, hr1, hr2⟩ := hrow _ (valV_mem hrv)
          have er : rv = .ref r := er
          subst er
          have newk : valV kvs (kN p.2) = none := by
            have := valV_key hk p.2
            rw [decide_eq_false hin] at this
            cases h : valV kvs (kN p.2) with
            | none => rfl
            | some z => rw [h] at this; cases this
          have klen : kvs.length = F.length := by have := congrArg List.length hk; simpa using this
          -- behind the new row: the dict, the list
          have fin : ∀ (nr : Addr) (ys : List V) (H4 : Hp), Ext [] H' H4 → SqT K H4 nr ys → ys.length ≤ F.length + 1 → ∃ H5, DPut H4 d (.int p.2) (.ref nr) H5 ∧
              ∃ q5 : H5 = upd H4 d (.dK (kvs ++ [(kN p.2, .ref nr)])), H5 o = some (.lst (F.map nV)) ∧ H5 d = some (.dK (kvs ++ [(kN p.2, .ref nr)])) ∧ (∀ e ∈ kvs ++ [(kN p.2, .ref nr)], Row H5 (F.length + 1) e.2) ∧ Ext [] H H5 := by
            intro nr ys H4 e4 hn hl
            have hD4 := e4.at hD (by simp)
            have hF4 := e4.at hF (by simp)
            refine ⟨_, DPut.k (k := kN p.2) hD4 (small1000 (by omega)), by rw [putK_new _ newk], ?_⟩
            rw [putK_new _ newk]
            have ee : Ext [d] H4 (upd H4 d (.dK (kvs ++ [(kN p.2, .ref nr)]))) := .wr (by simp)
            refine ⟨by rw [upd_ne od.symm]; exact hF4, upd_same, fun z hz => ?_, (e.trans e4).put hd⟩
            rcases List.mem_append.mp hz with hz | hz
            · obtain ⟨x, xs, h1, h2, h3⟩ := hrow z hz
              exact ⟨x, xs, h1, ee.tup (one_dk hD4) (e4.tup Lsts.nil h2), by omega⟩
            · obtain rfl := List.mem_singleton.mp hz
              exact ⟨nr, ys, rfl, ee.tup (one_dk hD4) hn, hl⟩
          have last : ∀ (nr : Addr) (H5 : Hp), H5 o = some (.lst (F.map nV)) → H5 d = some (.dK (kvs ++ [(kN p.2, .ref nr)])) → (∀ e ∈ kvs ++ [(kN p.2, .ref nr)], Row H5 (F.length + 1) e.2) → Ext [] H H5 →
              ∃ (F' : List Nat) (kvs' : List (Key × V)) (y5 y6 : Option V), [some (.ref a), some (.int 0), some (.ref d), some (.ref o), some (.int ((i : Int) + 1)), some (nV x), some (.int p.1), some (.int p.2)] = [some (.ref a), some (.int 0), some (.ref d), some (.ref o), some (.int ((i : Int) + 1)), some (nV x), y5, y6] ∧
                MetW b F' i x (k + 1) ∧ upd H5 o (.lst (F.map nV ++ [.int p.2])) o = some (.lst (F'.map nV)) ∧ upd H5 o (.lst (F.map nV ++ [.int p.2])) d = some (.dK kvs') ∧ kvs'.map (·.1) = F'.map kN ∧ (∀ e ∈ kvs', Row (upd H5 o (.lst (F.map nV ++ [.int p.2]))) F'.length e.2) ∧ Ext [] H (upd H5 o (.lst (F.map nV ++ [.int p.2]))) := by
            intro nr H5 h1 h2 h3 h4
            refine ⟨F ++ [p.2], kvs ++ [(kN p.2, .ref nr)], _, _, rfl, mw.push hp hin pb, by rw [upd_same, List.map_append]; rfl, by rw [upd_ne od]; exact h2, by rw [List.map_append, List.map_append, hk]; rfl, fun z hz => ?_, h4.put ho0⟩
            obtain ⟨x, xs, g1, g2, g3⟩ := h3 z hz
            exact ⟨x, xs, g1, Ext.tup (L := [o]) (.wr (by simp)) (one_lst h1) g2, by rw [List.length_append]; exact g3⟩
          refine ⟨_, rfl, _, rfl, d, _, rfl, by rw [← hrv]; exact DGet.k (k := kN x) hD, _, rfl, (by show 1 ≤ sizeLine; decide), fun g2 hg2 => ?_⟩
          have e5 : Ext [] H' (upd H' g2 (.tup [.int p.1])) := .new hg2
          refine ⟨r, g2, rs, _, rfl, rfl, e5.tup Lsts.nil hr1, .of upd_same, ?_, fun h0 => ?_, fun _ h0 => (by cases h0), fun _ _ g3 hg3 => ?_⟩
          · show rs.length + 1 ≤ sizeLine
            exact Nat.le_of_lt (small1000 (by omega))
          · obtain ⟨H5, dp, _, f1, f2, f3, f4⟩ := fin g2 [.int p.1] _ e5 (.of upd_same) (by simp)
            refine ⟨_, rfl, _, rfl, d, H5, rfl, dp, ?_⟩
            exact ⟨_, rfl, .inl ⟨rfl, _, .of f1⟩, _, rfl, o, _, _, rfl, rfl, f1, by rw [List.length_map]; exact small1000 (by omega), last g2 H5 f1 f2 f3 f4⟩
          · obtain ⟨H5, dp, _, f1, f2, f3, f4⟩ := fin g3 (rs ++ [.int p.1]) _ (e5.put2 hg3) (.of upd_same) (by rw [List.length_append]; show rs.length + 1 ≤ _; omega)
            refine ⟨_, rfl, _, rfl, d, H5, rfl, dp, ?_⟩
            exact ⟨_, rfl, .inl ⟨rfl, _, .of f1⟩, _, rfl, o, _, _, rfl, rfl, f1, by rw [List.length_map]; exact small1000 (by omega), last g3 H5 f1 f2 f3 f4⟩
      · rintro σ H' ⟨F, kvs, y5, y6, rfl, mw, hF, hD, hk, hrow, e⟩
        exact ⟨F, kvs, _, _, _, by rw [Int.natCast_add]; rfl, mw.done (by rw [List.length_map, plen]; exact Nat.le_refl _), hF, hD, hk, hrow, e⟩
    · have z : ¬ ((i : Int) < ((F.map nV).length : Int)) := fun y => z (decide_eq_true y)
      rw [List.length_map] at z
      have := mi.le
      exact ⟨_, rfl, q F kvs d H' (mi.met (.inl (by omega))) hk hD e⟩
theorem Met.all {b : Book} {F : List Nat} (m : Met b F) {s : Nat} (h : Rch b s) : s ∈ F := by
  induction h with
  | zero => exact List.mem_of_getElem? m.zero
  | step _ hp ih => exact m.cl _ ih _ hp
theorem sc_made_book : FnScope ["thing", "reached", "state"] ["thing"] (defScope s_made_book) := ⟨rfl, rfl, rfl, by decide +kernel, rfl, by decide +kernel, by decide +kernel⟩
def sp_made_book (K : PySem.W.Frag) : Sp := fun vs H Q _ => ∃ (v : V) (b : Book), vs = [v] ∧ BkV K H v b ∧ OkB b ∧ ∀ H', Ext [] H H' → Q v H'
theorem ok_made_book (T : Tx K mg) : FnOk P w K mg base CX0 5 T.made_book.f T.made_book.fd ["thing"] (sp_made_book K) := by
  refine T.made_book.F.ok sc_made_book (fun vs H Q E h => ?_) (fun cdv A outer s H vs Q E hr h => ?_)
  · obtain ⟨v, b, rfl, _⟩ := h; rfl
  · obtain ⟨v, b, rfl, hb, ok, q⟩ := h
    refine ⟨_, (pss_cons (ps_expr (pe_call (ok_check_form T) (hr.mono (by decide)) (by rfl) T.check_form.g T.check_form.F.kp T.check_form.b .nil pass0 (pa_cons (pv 0) pa_nil)))
      (pss_cons (ps_set (i := 1) sc_made_book.nd rfl (.inl rfl) (pe_call (ok_first_rows T) (hr.mono (by decide)) (by rfl) T.first_rows.g T.first_rows.F.kp T.first_rows.bD.choose_spec.2 T.first_rows.bD.choose_spec.1 pass0 (pa_cons (pv 0) pa_nil)))
      (pss_cons (ps_for PassesOwn.never rfl (pi_range1 (by rfl) T.n_range (pa_cons (pe_callB call_len_seq (by rfl) T.n_len PySem.boot_len (pa_cons (pv 0) pa_nil)) pa_nil)) (pg_name (i := 2) sc_made_book.nd rfl (.inl rfl))
        (pss_one (ps_if (pt_cmp (pc_dnotin (hu_of hr) (pv 2) (pv 1)))
          (pss_one ps_never)
          pss_nil)))
      (pss_one (ps_ret (pv 0)))))), ?_⟩
    refine ⟨_, rfl, v, b, rfl, hb, ok.toFormB, ?_⟩
    refine ⟨_, rfl, v, b, rfl, hb.wk, ok.toFormB, fun F kvs d H' mt hk hd e => ?_⟩
    obtain ⟨a, ls, rfl, ha, hls⟩ := hb
    have llen := Paired.len hls
    have h8 := ok.eight
    refine ⟨_, rfl, a, _, rfl, .inr (e.tup Lsts.nil ha), _, rfl, by omega, by omega, for_range (lo := 0) (n := _) (fun k σ H2 => H2 = H' ∧ ∃ y : Option V, σ = [some (.ref a), some (.ref d), y]) ⟨rfl, _, rfl⟩ ?_ ?_⟩
    · rintro k σ H2 hk' ⟨rfl, y, rfl⟩
      simp only [Int.zero_add]
      rw [Int.toNat_natCast] at hk'
      refine ⟨_, rfl, _, rfl, d, _, rfl, DGet.k (k := kN k) hd, _, rfl, ?_⟩
      rw [valV_key hk, decide_eq_true (mt.all (ok.reach k (by omega)))]
      exact iteF ⟨rfl, _, rfl⟩
    · rintro σ H2 ⟨rfl, y, rfl⟩
      exact ⟨_, rfl, q _ e⟩
end
end Nv
set_option Elab.async false
set_option linter.all false
set_option maxRecDepth 100000
namespace Nv
open PySem PySem.Spec PyProof.Rows L2
/-! ### comprehensions of some forms -/
abbrev LcEnd (g : TG) (tt : TT) (te : TE) (vs : List Nat) (σ : L2.St) (D : Addr) (J : It) (H1 : Hp) (Qd : Hp → Prop) : Prop := ∃ W : Nat → Nat → Hp → Prop, (∃ m, W 0 m (upd H1 D (.lst []))) ∧ ∀ i m H, W i m H →
  (J.stop i H ∧ Qd H) ∨ (J.go i H ∧ ∃ Nx : Hp → Prop, (∀ H', Nx H' → ∃ m', m' < m ∧ W (i + 1) m' H') ∧ ∀ x H', J.yld i H x H' → g x (wipe σ vs) H' fun σ2 H2 => wipe σ2 vs = wipe σ vs ∧ tt σ2 H2 fun b H3 =>
    if b = true then te σ2 H3 fun y H4 => ∃ acc, H4 D = some (.lst acc) ∧ acc.length < sizeLine ∧ Nx (upd H4 D (.lst (acc ++ [y]))) else Nx H3)
theorem filter_take {α : Type} (f : α → Bool) {l : List α} {i : Nat} {x : α} (h : l[i]? = some x) : (l.take (i + 1)).filter f = (l.take i).filter f ++ (if f x = true then [x] else []) := by
  rw [List.take_add_one, h, List.filter_append]
  cases e : f x <;> simp [e]
/-- [x for x in l if test]: l holds numbers -/
theorem filt_list {K : PySem.W.Frag} {a : Addr} {l : List Nat} {j : Nat} {vs : List Nat} {σ : L2.St} {H1 : Hp} {D : Addr} {Qd : Hp → Prop} {tt : TT} (f : Nat → Bool) (hD : H1 D = none) (hl : SqL K H1 a (l.map nV)) (hn : l.length < 1000)
    (hj : ∀ v : V, ((wipe σ vs).set j (some v))[j]? = some (some v)) (hw : ∀ v : V, wipe ((wipe σ vs).set j (some v)) vs = wipe σ vs)
    (ht : ∀ k H', k ∈ l → Ext [] H1 H' → tt ((wipe σ vs).set j (some (nV k))) H' (fun b H3 => b = f k ∧ Ext [] H' H3))
    (hd : ∀ H', H' D = some (.lst ((l.filter f).map nV)) → Ext [] H1 H' → Qd H') : LcEnd (gName j) (tMidT tt) (tVar j) vs σ D (Itl K a) H1 Qd := by
  refine lc_list (K := K) (a := a) (xs := l.map nV) (fun i H' => H' D = some (.lst (((l.take i).filter f).map nV)) ∧ Ext [] H1 H') ⟨upd_same, .new hD⟩ (fun i H' _ ⟨_, e⟩ => e.frz (by simp) hl) ?_ ?_
  · rintro i v H' hv ⟨h1, e⟩
    obtain ⟨k, hk, rfl⟩ := map_at hv
    refine ⟨hw _, _, ht k H' (List.mem_of_getElem? hk) e, ?_⟩
    rintro b H3 ⟨rfl, e3⟩
    have h3 := e3.at h1 (by simp)
    rw [filter_take f hk]
    refine ifB (fun hf => ?_) (fun hf => ?_)
    · refine ⟨_, hj _, _, h3, ?_, ?_, (e.trans e3).put hD⟩
      · rw [List.length_map]
        refine small1000 (Nat.le_trans (List.length_filter_le _ _) ?_)
        rw [List.length_take]
        omega
      · rw [upd_same, hf]
        simp
    · rw [hf]
      simp only [Bool.false_eq_true, if_false, List.append_nil]
      exact ⟨h3, e.trans e3⟩
  · rintro H' ⟨h1, e⟩
    rw [List.length_map, List.take_length] at h1
    exact hd H' h1 e
/-- the same over a tuple -/
theorem filt_tup {K : PySem.W.Frag} {a : Addr} {l : List Nat} {j : Nat} {vs : List Nat} {σ : L2.St} {H1 : Hp} {D : Addr} {Qd : Hp → Prop} {tt : TT} (f : Nat → Bool) (hD : H1 D = none) (hl : SqT K H1 a (l.map nV)) (hn : l.length < 1000)
    (hj : ∀ v : V, ((wipe σ vs).set j (some v))[j]? = some (some v)) (hw : ∀ v : V, wipe ((wipe σ vs).set j (some v)) vs = wipe σ vs)
    (ht : ∀ k H', k ∈ l → Ext [] H1 H' → tt ((wipe σ vs).set j (some (nV k))) H' (fun b H3 => b = f k ∧ Ext [] H' H3))
    (hd : ∀ H', H' D = some (.lst ((l.filter f).map nV)) → Ext [] H1 H' → Qd H') : LcEnd (gName j) (tMidT tt) (tVar j) vs σ D (Itt K a) H1 Qd := by
  refine lc_tup (K := K) (a := a) (xs := l.map nV) (fun i H' => H' D = some (.lst (((l.take i).filter f).map nV)) ∧ Ext [] H1 H') ⟨upd_same, .new hD⟩ (fun i H' _ ⟨_, e⟩ => e.tup Lsts.nil hl) ?_ ?_
  · rintro i v H' hv ⟨h1, e⟩
    obtain ⟨k, hk, rfl⟩ := map_at hv
    refine ⟨hw _, _, ht k H' (List.mem_of_getElem? hk) e, ?_⟩
    rintro b H3 ⟨rfl, e3⟩
    have h3 := e3.at h1 (by simp)
    rw [filter_take f hk]
    refine ifB (fun hf => ?_) (fun hf => ?_)
    · refine ⟨_, hj _, _, h3, ?_, ?_, (e.trans e3).put hD⟩
      · rw [List.length_map]
        refine small1000 (Nat.le_trans (List.length_filter_le _ _) ?_)
        rw [List.length_take]
        omega
      · rw [upd_same, hf]
        simp
    · rw [hf]
      simp only [Bool.false_eq_true, if_false, List.append_nil]
      exact ⟨h3, e.trans e3⟩
  · rintro H' ⟨h1, e⟩
    rw [List.length_map, List.take_length] at h1
    exact hd H' h1 e
/-- [x for x in range(n) if test] -/
theorem filt_range {n : Nat} {j : Nat} {vs : List Nat} {σ : L2.St} {H1 : Hp} {D : Addr} {Qd : Hp → Prop} {tt : TT} (f : Nat → Bool) (hD : H1 D = none) (hn : n < 1000)
    (hj : ∀ v : V, ((wipe σ vs).set j (some v))[j]? = some (some v)) (hw : ∀ v : V, wipe ((wipe σ vs).set j (some v)) vs = wipe σ vs)
    (ht : ∀ k H', k < n → Ext [] H1 H' → tt ((wipe σ vs).set j (some (nV k))) H' (fun b H3 => b = f k ∧ Ext [] H' H3))
    (hd : ∀ H', H' D = some (.lst (((List.range n).filter f).map nV)) → Ext [] H1 H' → Qd H') : LcEnd (gName j) (tMidT tt) (tVar j) vs σ D (Itr 0 n) H1 Qd := by
  refine lc_range (lo := 0) (n := n) (fun i H' => H' D = some (.lst ((((List.range n).take i).filter f).map nV)) ∧ Ext [] H1 H') ⟨upd_same, .new hD⟩ ?_ ?_
  · rintro i H' hi ⟨h1, e⟩
    have hk : (List.range n)[i]? = some i := by rw [List.getElem?_range hi]
    simp only [Int.zero_add]
    refine ⟨hw _, _, ht i H' hi e, ?_⟩
    rintro b H3 ⟨rfl, e3⟩
    have h3 := e3.at h1 (by simp)
    rw [filter_take f hk]
    refine ifB (fun hf => ?_) (fun hf => ?_)
    · refine ⟨_, hj _, _, h3, ?_, ?_, (e.trans e3).put hD⟩
      · rw [List.length_map]
        refine small1000 (Nat.le_trans (List.length_filter_le _ _) ?_)
        rw [List.length_take, List.length_range]
        omega
      · rw [upd_same, hf]
        simp
    · rw [hf]
      simp only [Bool.false_eq_true, if_false, List.append_nil]
      exact ⟨h3, e.trans e3⟩
  · rintro H' ⟨h1, e⟩
    rw [List.take_of_length_le (by simp)] at h1
    exact hd H' h1 e
/-- two clauses: the first over a list -/
theorem lc2_list {K : PySem.W.Frag} {a : Addr} {xs : List V} {g g1 : TG} {tt tt1 : TT} {wi1 : TI} {te : TE} {vs vs1 : List Nat} {σ : L2.St} {H1 : Hp} {D : Addr} {Qd : Hp → Prop} (Pv : Nat → Hp → Prop) (h0 : Pv 0 (upd H1 D (.lst []))) (hl : ∀ i H, i ≤ xs.length → Pv i H → SqL K H a xs)
    (hs : ∀ i x H, xs[i]? = some x → Pv i H → g x (wipe σ vs) H fun σ2 H2 => wipe σ2 vs = wipe σ vs ∧ tt σ2 H2 fun b H3 => if b = true then wi1 σ2 H3 fun J1 H4 => ∃ W1 : Nat → Nat → Hp → Prop, (∃ m, W1 0 m H4) ∧ ∀ j k H, W1 j k H →
      (J1.stop j H ∧ Pv (i + 1) H) ∨ (J1.go j H ∧ ∃ Nx1 : Hp → Prop, (∀ H', Nx1 H' → ∃ k', k' < k ∧ W1 (j + 1) k' H') ∧ ∀ x H', J1.yld j H x H' → g1 x (wipe σ2 vs1) H' fun σ3 H5 => wipe σ3 vs1 = wipe σ2 vs1 ∧ tt1 σ3 H5 fun b H6 =>
        if b = true then te σ3 H6 fun y H7 => ∃ acc, H7 D = some (.lst acc) ∧ acc.length < sizeLine ∧ Nx1 (upd H7 D (.lst (acc ++ [y]))) else Nx1 H6) else Pv (i + 1) H3)
    (hd : ∀ H, Pv xs.length H → Qd H) :
    ∃ W : Nat → Nat → Hp → Prop, (∃ m, W 0 m (upd H1 D (.lst []))) ∧ ∀ i m H, W i m H →
      ((Itl K a).stop i H ∧ Qd H) ∨ ((Itl K a).go i H ∧ ∃ Nx : Hp → Prop, (∀ H', Nx H' → ∃ m', m' < m ∧ W (i + 1) m' H') ∧ ∀ x H', (Itl K a).yld i H x H' → g x (wipe σ vs) H' fun σ2 H2 => wipe σ2 vs = wipe σ vs ∧ tt σ2 H2 fun b H3 =>
        if b = true then wi1 σ2 H3 fun J1 H4 => ∃ W1 : Nat → Nat → Hp → Prop, (∃ m, W1 0 m H4) ∧ ∀ j k H, W1 j k H →
          (J1.stop j H ∧ Nx H) ∨ (J1.go j H ∧ ∃ Nx1 : Hp → Prop, (∀ H', Nx1 H' → ∃ k', k' < k ∧ W1 (j + 1) k' H') ∧ ∀ x H', J1.yld j H x H' → g1 x (wipe σ2 vs1) H' fun σ3 H5 => wipe σ3 vs1 = wipe σ2 vs1 ∧ tt1 σ3 H5 fun b H6 =>
            if b = true then te σ3 H6 fun y H7 => ∃ acc, H7 D = some (.lst acc) ∧ acc.length < sizeLine ∧ Nx1 (upd H7 D (.lst (acc ++ [y]))) else Nx1 H6)
        else Nx H3) := by
  refine ⟨fun i m H => m = xs.length - i ∧ i ≤ xs.length ∧ Pv i H, ⟨xs.length, by simp, Nat.zero_le _, h0⟩, ?_⟩
  rintro i m H ⟨rfl, hi, p⟩
  have q := hl i H hi p
  by_cases lt : i < xs.length
  · refine .inr ⟨⟨xs, xs[i], q, List.getElem?_eq_getElem lt⟩, Pv (i + 1), fun H' p' => ⟨xs.length - (i + 1), by omega, rfl, lt, p'⟩, fun x H' y => ?_⟩
    obtain ⟨rfl, y2⟩ := y
    exact hs i x H' (y2 xs q) p
  · have e : i = xs.length := by omega
    subst e
    exact .inl ⟨⟨xs, q, Nat.le_refl _⟩, hd H p⟩
/-- the second over a tuple -/
theorem lc2_tup {K : PySem.W.Frag} {c : Addr} {ys : List V} {g1 : TG} {tt1 : TT} {te : TE} {vs1 : List Nat} {σ2 : L2.St} {H4 : Hp} {D : Addr} {Nx : Hp → Prop} (Pv : Nat → Hp → Prop) (h0 : Pv 0 H4) (hl : ∀ j H, j ≤ ys.length → Pv j H → SqT K H c ys)
    (hs : ∀ j y H, ys[j]? = some y → Pv j H → g1 y (wipe σ2 vs1) H fun σ3 H5 => wipe σ3 vs1 = wipe σ2 vs1 ∧ tt1 σ3 H5 fun b H6 =>
      if b = true then te σ3 H6 fun y H7 => ∃ acc, H7 D = some (.lst acc) ∧ acc.length < sizeLine ∧ Pv (j + 1) (upd H7 D (.lst (acc ++ [y]))) else Pv (j + 1) H6) (hd : ∀ H, Pv ys.length H → Nx H) :
    ∃ W1 : Nat → Nat → Hp → Prop, (∃ m, W1 0 m H4) ∧ ∀ j k H, W1 j k H →
      ((Itt K c).stop j H ∧ Nx H) ∨ ((Itt K c).go j H ∧ ∃ Nx1 : Hp → Prop, (∀ H', Nx1 H' → ∃ k', k' < k ∧ W1 (j + 1) k' H') ∧ ∀ x H', (Itt K c).yld j H x H' → g1 x (wipe σ2 vs1) H' fun σ3 H5 => wipe σ3 vs1 = wipe σ2 vs1 ∧ tt1 σ3 H5 fun b H6 =>
        if b = true then te σ3 H6 fun y H7 => ∃ acc, H7 D = some (.lst acc) ∧ acc.length < sizeLine ∧ Nx1 (upd H7 D (.lst (acc ++ [y]))) else Nx1 H6) := by
  refine ⟨fun i m H => m = ys.length - i ∧ i ≤ ys.length ∧ Pv i H, ⟨ys.length, by simp, Nat.zero_le _, h0⟩, ?_⟩
  rintro i m H ⟨rfl, hi, p⟩
  have q := hl i H hi p
  by_cases lt : i < ys.length
  · refine .inr ⟨⟨ys, ys[i], q, List.getElem?_eq_getElem lt⟩, Pv (i + 1), fun H' p' => ⟨ys.length - (i + 1), by omega, rfl, lt, p'⟩, fun x H' y => ?_⟩
    obtain ⟨rfl, y2⟩ := y
    exact hs i x H' (y2 ys q) p
  · have e : i = ys.length := by omega
    subst e
    exact .inl ⟨⟨ys, q, Nat.le_refl _⟩, hd H p⟩
end Nv
set_option linter.all false
namespace Nv
/-! ### forks, reach, ways back -/
theorem srt_eq : ∀ {l m : List Nat}, l.Pairwise (· < ·) → m.Pairwise (· < ·) → (∀ k, k ∈ l ↔ k ∈ m) → l = m
  | [], [], _, _, _ => rfl
  | [], b :: m, _, _, h => by have := (h b).mpr (by simp); cases this
  | a :: l, [], _, _, h => by have := (h a).mp (by simp); cases this
  | a :: l, b :: m, h1, h2, h => by
    obtain ⟨a1, a2⟩ := List.pairwise_cons.mp h1
    obtain ⟨b1, b2⟩ := List.pairwise_cons.mp h2
    have e : a = b := by
      have p := (h a).mp (by simp)
      have q := (h b).mpr (by simp)
      rcases List.mem_cons.mp p with p | p
      · exact p
      · rcases List.mem_cons.mp q with q | q
        · exact q.symm
        · have := b1 a p
          have := a1 b q
          omega
    subst e
    rw [srt_eq a2 b2 fun k => ?_]
    constructor
    · intro hk
      rcases List.mem_cons.mp ((h k).mp (List.mem_cons_of_mem _ hk)) with e | e
      · have := a1 k hk; omega
      · exact e
    · intro hk
      rcases List.mem_cons.mp ((h k).mpr (List.mem_cons_of_mem _ hk)) with e | e
      · have := b1 k hk; omega
      · exact e
theorem filt_srt (n : Nat) (f : Nat → Bool) : ((List.range n).filter f).Pairwise (· < ·) := List.Pairwise.sublist List.filter_sublist List.pairwise_lt_range
theorem mem_filt {n : Nat} {f : Nat → Bool} {k : Nat} : k ∈ (List.range n).filter f ↔ k < n ∧ f k = true := by rw [List.mem_filter, List.mem_range]
def forksM (b : Book) : List Nat := (List.range b.length).filter fun s => decide (1 < (mvs b s).length)
/-- one message further -/
def nextB (b : Book) (L : List Nat) (k : Nat) : Bool := decide (k ∈ L) || L.any fun j => (mvs b j).any fun p => p.2 == k
def stepL (b : Book) (L : List Nat) : List Nat := (List.range b.length).filter (nextB b L)
def wiL (b : Book) (s : Nat) : Nat → List Nat
  | 0 => [s]
  | n + 1 => stepL b (wiL b s n)
def reachL (b : Book) (s many : Nat) : List Nat := wiL b s (min many b.length)
def ledL (b : Book) (t many : Nat) : List Nat := if many = 0 then [] else reachL b t (many - 1)
theorem wiL_lt {b : Book} {s : Nat} (hs : s < b.length) : ∀ n, ∀ k ∈ wiL b s n, k < b.length
  | 0, k, hk => by rw [List.mem_singleton.mp hk]; exact hs
  | n + 1, k, hk => (mem_filt.mp hk).1
theorem wiL_srt (b : Book) (s : Nat) : ∀ n, (wiL b s n).Pairwise (· < ·)
  | 0 => by simp [wiL]
  | n + 1 => filt_srt _ _
theorem srt_nodup {l : List Nat} (h : l.Pairwise (· < ·)) : l.Nodup := List.Pairwise.imp (fun h e => by omega) h
theorem wiL_len {b : Book} {s : Nat} (hs : s < b.length) (n : Nat) : (wiL b s n).length ≤ b.length := nodup_le (srt_nodup (wiL_srt b s n)) (wiL_lt hs n)
def waysM (b : Book) (s : Nat) : Nat := ((mvs b s).filter fun p => decide (s ∈ reachL b p.2 b.length)).length
def knotsM (b : Book) : List Nat := (List.range b.length).filter fun s => decide (1 < waysM b s)
/-- a step's list, by what it has -/
theorem step_eq {b : Book} (fb : FormB b) {L ahead ms : List Nat} (hL : ∀ k ∈ L, k < b.length) (ha : ∀ k, k ∈ ahead ↔ ∃ j ∈ L, ∃ p ∈ mvs b j, p.2 = k) (h1 : ms.Pairwise (· < ·)) (h2 : ∀ k, k ∈ ms ↔ k ∈ L ∨ k ∈ ahead) : ms = stepL b L := by
  refine srt_eq h1 (filt_srt _ _) fun k => ?_
  rw [h2, ha]
  unfold stepL
  rw [mem_filt]
  unfold nextB
  rw [Bool.or_eq_true, decide_eq_true_eq, List.any_eq_true]
  constructor
  · rintro (h | ⟨j, hj, p, hp, e⟩)
    · exact ⟨hL k h, .inl h⟩
    · exact ⟨by rw [← e]; exact fb.to hp, .inr ⟨j, hj, by rw [List.any_eq_true]; exact ⟨p, hp, by simp [e]⟩⟩⟩
  · rintro ⟨_, h | ⟨j, hj, h⟩⟩
    · exact .inl h
    · rw [List.any_eq_true] at h
      obtain ⟨p, hp, e⟩ := h
      exact .inr ⟨j, hj, p, hp, by simpa using e⟩
def leadM (b : Book) (W s : Nat) (goals : List Nat) : List Nat := ((mvs b s).filter fun p => (ledL b p.2 (W - 1)).any fun k => decide (k ∈ goals)).map (·.1)
theorem reachL_lt {b : Book} {s m : Nat} (hs : s < b.length) : ∀ k ∈ reachL b s m, k < b.length := wiL_lt hs _
theorem ledL_lt {b : Book} {s m : Nat} (hs : s < b.length) : ∀ k ∈ ledL b s m, k < b.length := by
  unfold ledL
  split
  · intro k hk; cases hk
  · exact reachL_lt hs
/-! ### a dict of unlike keys -/
open L2 in
theorem valV_none_of {kvs : List (Key × V)} {k : Key} (h : k ∉ kvs.map (·.1)) : valV kvs k = none := by
  cases e : valV kvs k with
  | none => rfl
  | some v => exact absurd (List.mem_map.mpr ⟨_, valV_mem e, rfl⟩) h
open L2 in
theorem mergeK_nd : ∀ (more acc : List (Key × V)), ((acc ++ more).map (·.1)).Nodup → mergeK acc more = acc ++ more
  | [], acc, _ => by show acc = acc ++ []; rw [List.append_nil]
  | p :: r, acc, h => by
    have hp : valV acc p.1 = none := valV_none_of fun z => by
      rw [List.map_append, List.map_cons, List.nodup_append] at h
      exact h.2.2 _ z _ (by simp) rfl
    show mergeK (putK acc p.1 p.2) r = _
    rw [putK_new _ hp, mergeK_nd r (acc ++ [(p.1, p.2)]) (by rw [List.append_assoc]; exact h), List.append_assoc]
    rfl
open L2 in
theorem valV_nd : ∀ {kvs : List (Key × V)} {k : Key} {v : V}, (kvs.map (·.1)).Nodup → (k, v) ∈ kvs → valV kvs k = some v
  | [], _, _, _, h => nomatch h
  | p :: r, k, v, nd, h => by
    rw [List.map_cons, List.nodup_cons] at nd
    rcases List.mem_cons.mp h with h | h
    · subst h
      exact valV_pos rfl
    · have ne : ¬ p.1 = k := fun e => nd.1 (by rw [e]; exact List.mem_map.mpr ⟨_, h, rfl⟩)
      rw [valV_neg ne]
      exact valV_nd nd.2 h
/-! ### ranks, round by round -/
def setAll (r : List (Option Int)) (L : List Nat) (x : Int) : List (Option Int) := L.foldl (fun r f => r.set f (some x)) r
theorem setAll_snoc (r : List (Option Int)) (L : List Nat) (f : Nat) (x : Int) : setAll r (L ++ [f]) x = (setAll r L x).set f (some x) := by
  unfold setAll
  rw [List.foldl_append]
  rfl
theorem setAll_len : ∀ (L : List Nat) (r : List (Option Int)) (x : Int), (setAll r L x).length = r.length
  | [], _, _ => rfl
  | f :: L, r, x => by
    show (setAll (r.set f (some x)) L x).length = _
    rw [setAll_len L, List.length_set]
def fallM (b : Book) (W : Nat) (st : List Nat) : List Nat := st.filter fun f => decide ((leadM b W f st).length < 2)
def restM (b : Book) (W : Nat) (st : List Nat) : List Nat := st.filter fun f => !decide (f ∈ fallM b W st)
inductive Rk (b : Book) (W : Nat) : Nat → List Nat → List (Option Int) → List (Option Int) → List Nat → Prop
  | stop {t : Nat} {st : List Nat} {r : List (Option Int)} : fallM b W st = [] → Rk b W t st r (setAll r st (-1)) st
  | go {t : Nat} {st fin : List Nat} {r res : List (Option Int)} : fallM b W st ≠ [] → Rk b W (t + 1) (restM b W st) (setAll r (fallM b W st) t) res fin → Rk b W t st r res fin
theorem rest_len {b : Book} {W : Nat} {st : List Nat} (h : fallM b W st ≠ []) : (restM b W st).length < st.length := by
  obtain ⟨f, hf⟩ := List.exists_mem_of_ne_nil _ h
  have hs : f ∈ st := (List.mem_filter.mp hf).1
  unfold restM
  refine Nat.lt_of_le_of_ne (List.length_filter_le _ _) fun e => ?_
  have := List.length_filter_eq_length_iff.mp e f hs
  simp [hf] at this
def LastM (b : Book) (W : Nat) (res : List (Option Int)) (fin : List Nat) : Prop := Rk b W 0 (forksM b) (List.replicate b.length none) res fin
def lastL (b : Book) (res : List (Option Int)) : List Nat := (List.range b.length).filter fun s => decide (res[s]? = some (some (-1)))
/-- the least number where the window is a number -/
def leastM (b : Book) (res : List (Option Int)) : Nat := if mvs b 0 = [] then 0 else if forksM b = [] then 1 else if lastL b res = [] then 2 else 3
theorem rk_len {b : Book} {W t : Nat} {st fin : List Nat} {r res : List (Option Int)} (h : Rk b W t st r res fin) : res.length = r.length := by
  induction h with
  | stop _ => exact setAll_len _ _ _
  | go _ _ ih => rw [ih, setAll_len]
theorem rk_ex (b : Book) (W : Nat) : ∀ (n t : Nat) (st : List Nat) (r : List (Option Int)), st.length ≤ n → ∃ res fin, Rk b W t st r res fin := by
  intro n
  induction n with
  | zero =>
    intro t st r h
    have : st = [] := List.eq_nil_of_length_eq_zero (by omega)
    subst this
    exact ⟨_, _, .stop rfl⟩
  | succ n ih =>
    intro t st r h
    by_cases e : fallM b W st = []
    · exact ⟨_, _, .stop e⟩
    · obtain ⟨res, fin, k⟩ := ih (t + 1) (restM b W st) (setAll r (fallM b W st) t) (by have := rest_len e; omega)
      exact ⟨res, fin, .go e k⟩
theorem rk_fun {b : Book} {W t : Nat} {st fin fin' : List Nat} {r res res' : List (Option Int)} (h : Rk b W t st r res fin) (h' : Rk b W t st r res' fin') : res = res' ∧ fin = fin' := by
  induction h with
  | stop e =>
    cases h' with
    | stop _ => exact ⟨rfl, rfl⟩
    | go e' _ => exact absurd e e'
  | go e _ ih =>
    cases h' with
    | stop e' => exact absurd e' e
    | go _ k => exact ih k
open PySem PySem.Spec PyProof.Rows L2
/-- the first window for three wires -/
def FromW (b : Book) (o : Option Nat) : Prop := match o with
  | some W => 1 ≤ W ∧ W ≤ 9 ∧ (∃ res fin, LastM b W res fin ∧ leastM b res = 3) ∧ ∀ V, 1 ≤ V → V < W → ∀ res fin, LastM b V res fin → leastM b res ≠ 3
  | none => ∀ V, 1 ≤ V → V ≤ 9 → ∀ res fin, LastM b V res fin → leastM b res ≠ 3
def oN : Option Nat → V
  | none => .non
  | some n => nV n
end Nv
set_option Elab.async false
set_option linter.all false
set_option maxRecDepth 100000
namespace Nv
open PySem PySem.Spec PyProof.Rows L2
section
variable {P : Program} {w : World} {K : PySem.W.Frag} {mg : Str → Option Value} {base : Heap}
/-! ### forks, reach -/
theorem forTo {n m : Nat} (h : n = m) : ((n : Int)).toNat = m := by rw [Int.toNat_natCast, h]
end
end Nv
set_option Elab.async false
set_option linter.all false
set_option maxRecDepth 100000
namespace Nv
open PySem PySem.Spec PyProof.Rows L2
section
variable {P : Program} {w : World} {K : PySem.W.Frag} {mg : Str → Option Value} {base : Heap}
/-! ### ways that lead, ways back -/
theorem iteNS' {c A B : Prop} [Decidable c] (hc : ¬ c) (h : A) : if (!decide c) = true then A else B := by
  rw [decide_eq_false hc]
  exact iteT h
theorem rise_nd {s : State} (h : (s.map (·.1)).Pairwise (· < ·)) : (s.map fun q => ((kN q.1, V.int q.2) : Key × V)).map (·.1) |>.Nodup := by
  rw [List.map_map]
  have e : ((fun x : Key × V => x.1) ∘ fun q : Nat × Nat => ((kN q.1, V.int q.2) : Key × V)) = kN ∘ (·.1) := rfl
  rw [e, ← List.map_map]
  refine List.Pairwise.map kN (fun a b h2 h3 => ?_) h
  have : (a : Int) = (b : Int) := Sum.inl.inj h3
  omega
end
end Nv
set_option Elab.async false
set_option linter.all false
set_option maxRecDepth 100000
namespace Nv
open PySem PySem.Spec PyProof.Rows L2
section
variable {P : Program} {w : World} {K : PySem.W.Frag} {mg : Str → Option Value} {base : Heap}
/-! ### ranks, lasting forks, the least number -/
def oV : Option Int → V
  | none => .non
  | some i => .int i
end
end Nv
set_option linter.all false
namespace Nv
/-! ### states on rings -/
def ringsM (b : Book) : List Nat := (List.range b.length).filter fun s => decide (0 < waysM b s)
def ringForksM (b : Book) : List Nat := (forksM b).filter fun s => decide (s ∈ ringsM b)
end Nv
set_option linter.all false
namespace Nv
/-! ### ends, level by level -/
def nextL (b : Book) (L : List Nat) : List Nat := (List.range b.length).filter fun k => L.any fun j => (mvs b j).any fun p => p.2 == k
def exL (b : Book) (s : Nat) : Nat → List Nat
  | 0 => [s]
  | n + 1 => nextL b (exL b s n)
def endsL (b : Book) (s m : Nat) : List Nat := if m = 0 then [] else wiL b s (m - 1)
theorem any_mv {b : Book} {L : List Nat} {k : Nat} : (L.any fun j => (mvs b j).any fun p => p.2 == k) = true ↔ ∃ j ∈ L, ∃ p ∈ mvs b j, p.2 = k := by
  rw [List.any_eq_true]
  constructor
  · rintro ⟨j, hj, h⟩
    obtain ⟨p, hp, e⟩ := List.any_eq_true.mp h
    exact ⟨j, hj, p, hp, by simpa using e⟩
  · rintro ⟨j, hj, p, hp, e⟩
    exact ⟨j, hj, List.any_eq_true.mpr ⟨p, hp, by simpa using e⟩⟩
theorem mem_next {b : Book} (fb : FormB b) {L : List Nat} {k : Nat} : k ∈ nextL b L ↔ ∃ j ∈ L, ∃ p ∈ mvs b j, p.2 = k := by
  unfold nextL
  rw [mem_filt, any_mv]
  constructor
  · exact fun h => h.2
  · rintro ⟨j, hj, p, hp, e⟩
    exact ⟨by rw [← e]; exact fb.to hp, j, hj, p, hp, e⟩
theorem mem_step {b : Book} (fb : FormB b) {L : List Nat} (hL : ∀ k ∈ L, k < b.length) {k : Nat} : k ∈ stepL b L ↔ k ∈ L ∨ ∃ j ∈ L, ∃ p ∈ mvs b j, p.2 = k := by
  unfold stepL nextB
  rw [mem_filt, Bool.or_eq_true, decide_eq_true_eq, any_mv]
  constructor
  · exact fun h => h.2
  · rintro (h | ⟨j, hj, p, hp, e⟩)
    · exact ⟨hL k h, .inl h⟩
    · exact ⟨by rw [← e]; exact fb.to hp, .inr ⟨j, hj, p, hp, e⟩⟩
theorem exL_srt (b : Book) (s : Nat) : ∀ n, (exL b s n).Pairwise (· < ·)
  | 0 => by simp [exL]
  | n + 1 => filt_srt _ _
theorem exL_lt {b : Book} {s : Nat} (hs : s < b.length) : ∀ n, ∀ k ∈ exL b s n, k < b.length
  | 0, k, hk => by rw [List.mem_singleton.mp hk]; exact hs
  | n + 1, k, hk => (mem_filt.mp hk).1
theorem exL_len {b : Book} {s : Nat} (hs : s < b.length) (n : Nat) : (exL b s n).length ≤ b.length := nodup_le (srt_nodup (exL_srt b s n)) (exL_lt hs n)
theorem wi_ex {b : Book} (fb : FormB b) {s : Nat} (hs : s < b.length) : ∀ (n k : Nat), k ∈ wiL b s n ↔ ∃ j, j ≤ n ∧ k ∈ exL b s j := by
  intro n
  induction n with
  | zero =>
    intro k
    constructor
    · exact fun h => ⟨0, Nat.le_refl _, h⟩
    · rintro ⟨j, hj, h⟩
      have : j = 0 := by omega
      subst this
      exact h
  | succ n ih =>
    intro k
    show k ∈ stepL b (wiL b s n) ↔ _
    rw [mem_step fb (wiL_lt hs n)]
    constructor
    · rintro (h | ⟨x, hx, p, hp, e⟩)
      · obtain ⟨j, hj, h⟩ := (ih k).mp h
        exact ⟨j, by omega, h⟩
      · obtain ⟨j, hj, h⟩ := (ih x).mp hx
        exact ⟨j + 1, by omega, (mem_next fb).mpr ⟨x, h, p, hp, e⟩⟩
    · rintro ⟨j, hj, h⟩
      by_cases hjn : j ≤ n
      · exact .inl ((ih k).mpr ⟨j, hjn, h⟩)
      · have : j = n + 1 := by omega
        subst this
        obtain ⟨x, hx, p, hp, e⟩ := (mem_next fb).mp h
        exact .inr ⟨x, (ih x).mpr ⟨n, Nat.le_refl _, hx⟩, p, hp, e⟩
theorem mem_ends {b : Book} (fb : FormB b) {s : Nat} (hs : s < b.length) {m k : Nat} : k ∈ endsL b s m ↔ ∃ j, j < m ∧ k ∈ exL b s j := by
  unfold endsL
  split
  · rename_i h
    constructor
    · intro z; cases z
    · rintro ⟨j, hj, _⟩; omega
  · rw [wi_ex fb hs]
    constructor
    · rintro ⟨j, hj, h⟩
      exact ⟨j, by omega, h⟩
    · rintro ⟨j, hj, h⟩
      exact ⟨j, by omega, h⟩
theorem endsL_srt (b : Book) (s m : Nat) : (endsL b s m).Pairwise (· < ·) := by
  unfold endsL
  split
  · exact .nil
  · exact wiL_srt _ _ _
theorem endsL_lt {b : Book} {s m : Nat} (hs : s < b.length) : ∀ k ∈ endsL b s m, k < b.length := by
  unfold endsL
  split
  · intro k hk; cases hk
  · exact wiL_lt hs _
theorem endsL_len {b : Book} {s m : Nat} (hs : s < b.length) : (endsL b s m).length ≤ b.length := nodup_le (srt_nodup (endsL_srt b s m)) (endsL_lt hs)
/-! ### steps of any number -/
inductive Rt (b : Book) : Nat → Nat → Prop
  | refl (s : Nat) : Rt b s s
  | step {s k : Nat} {p : Nat × Nat} : Rt b s k → p ∈ mvs b k → Rt b s p.2
theorem Rt.trans {b : Book} {x y z : Nat} (h : Rt b x y) (k : Rt b y z) : Rt b x z := by
  induction k with
  | refl => exact h
  | step _ hp ih => exact ih.step hp
theorem Rt.one {b : Book} {x : Nat} {p : Nat × Nat} (hp : p ∈ mvs b x) : Rt b x p.2 := (Rt.refl x).step hp
theorem wi_mono {b : Book} (fb : FormB b) {s : Nat} (hs : s < b.length) {n m : Nat} (h : n ≤ m) {k : Nat} (hk : k ∈ wiL b s n) : k ∈ wiL b s m := by
  obtain ⟨j, hj, e⟩ := (wi_ex fb hs n k).mp hk
  exact (wi_ex fb hs m k).mpr ⟨j, by omega, e⟩
theorem wi_rt {b : Book} (fb : FormB b) {s : Nat} (hs : s < b.length) : ∀ (n k : Nat), k ∈ wiL b s n → Rt b s k := by
  intro n
  induction n with
  | zero => intro k hk; rw [List.mem_singleton.mp hk]; exact .refl s
  | succ n ih =>
    intro k hk
    rcases (mem_step fb (wiL_lt hs n)).mp hk with h | ⟨x, hx, p, hp, e⟩
    · exact ih k h
    · rw [← e]
      exact (ih x hx).step hp
/-- it stays as it is, or grows -/
theorem wi_grow {b : Book} (fb : FormB b) {s : Nat} (hs : s < b.length) : ∀ n, n + 1 ≤ (wiL b s n).length ∨ ∀ m, n ≤ m → wiL b s m = wiL b s n := by
  intro n
  induction n with
  | zero => exact .inl (by simp [wiL])
  | succ n ih =>
    rcases ih with h | h
    · by_cases e : wiL b s (n + 1) = wiL b s n
      · refine .inr fun m hm => ?_
        have key : ∀ d, wiL b s (n + 1 + d) = wiL b s (n + 1) := by
          intro d
          induction d with
          | zero => rfl
          | succ d ih2 =>
            show stepL b (wiL b s (n + 1 + d)) = _
            rw [ih2, e]
            exact e
        have : m = n + 1 + (m - (n + 1)) := by omega
        rw [this]
        exact key _
      · refine .inl ?_
        have sub : ∀ k ∈ wiL b s n, k ∈ wiL b s (n + 1) := fun k hk => wi_mono fb hs (by omega) hk
        have le := List.Nodup.length_le_of_subset (srt_nodup (wiL_srt b s n)) sub
        by_cases eq : (wiL b s n).length = (wiL b s (n + 1)).length
        · exfalso
          refine e (srt_eq (wiL_srt _ _ _) (wiL_srt _ _ _) fun k => ⟨fun hk => ?_, sub k⟩)
          by_cases hin : k ∈ wiL b s n
          · exact hin
          · exfalso
            have nd : (k :: wiL b s n).Nodup := List.nodup_cons.mpr ⟨hin, srt_nodup (wiL_srt b s n)⟩
            have := List.Nodup.length_le_of_subset nd (l₂ := wiL b s (n + 1)) (fun z hz => by
              rcases List.mem_cons.mp hz with hz | hz
              · rw [hz]; exact hk
              · exact sub z hz)
            rw [List.length_cons] at this
            omega
        · omega
    · refine .inr fun m hm => ?_
      rw [h m (by omega), h (n + 1) (by omega)]
/-- within one step less than there are states all is met -/
theorem wi_full {b : Book} (fb : FormB b) {s : Nat} (hs : s < b.length) : ∀ m, b.length - 1 ≤ m → wiL b s m = wiL b s (b.length - 1) := by
  have h1 := fb.one
  rcases wi_grow fb hs (b.length - 1) with h | h
  · intro m hm
    have full : ∀ m, b.length - 1 ≤ m → ∀ k, k ∈ wiL b s m ↔ k < b.length := by
      intro m hm k
      refine ⟨fun hk => wiL_lt hs m k hk, fun hk => ?_⟩
      by_cases hin : k ∈ wiL b s m
      · exact hin
      · exfalso
        have hk2 : k ∉ wiL b s (b.length - 1) := fun z => hin (wi_mono fb hs hm z)
        have nd : (k :: wiL b s (b.length - 1)).Nodup := List.nodup_cons.mpr ⟨hk2, srt_nodup (wiL_srt b s _)⟩
        have := nodup_le (n := b.length) nd (fun z hz => by
          rcases List.mem_cons.mp hz with hz | hz
          · rw [hz]; exact hk
          · exact wiL_lt hs _ z hz)
        rw [List.length_cons] at this
        omega
    refine srt_eq (wiL_srt _ _ _) (wiL_srt _ _ _) fun k => ?_
    rw [full m hm, full _ (Nat.le_refl _)]
  · exact h
theorem rt_wi {b : Book} (fb : FormB b) {s k : Nat} (hs : s < b.length) (h : Rt b s k) : k ∈ wiL b s (b.length - 1) := by
  induction h with
  | refl => exact wi_mono fb hs (Nat.zero_le _) (by simp [wiL])
  | step h hp ih =>
    rw [← wi_full fb hs (b.length - 1 + 1) (by omega)]
    exact (mem_step fb (wiL_lt hs _)).mpr (.inr ⟨_, ih, _, hp, rfl⟩)
theorem mem_wi {b : Book} (fb : FormB b) {s k m : Nat} (hs : s < b.length) (hm : b.length - 1 ≤ m) : k ∈ wiL b s m ↔ Rt b s k := by
  rw [wi_full fb hs m hm]
  exact ⟨fun h => wi_rt fb hs _ k h, rt_wi fb hs⟩
/-- the law's knots -/
def backM (b : Book) (s : Nat) : Nat := ((mvs b s).filter fun p => decide (s ∈ endsL b p.2 8)).length
theorem back_ways {b : Book} (fb : FormB b) (s : Nat) : backM b s = waysM b s := by
  unfold backM waysM
  congr 1
  refine List.filter_congr fun p hp => decide_eq_decide.mpr ?_
  have hp2 := fb.to hp
  have h8 := fb.eight
  show s ∈ wiL b p.2 7 ↔ s ∈ wiL b p.2 (min b.length b.length)
  rw [mem_wi fb hp2 (by omega), mem_wi fb hp2 (by omega)]
theorem knots_law {b : Book} (fb : FormB b) : (List.range b.length).filter (fun s => decide (1 < backM b s)) = knotsM b := by
  unfold knotsM
  refine List.filter_congr fun s _ => ?_
  rw [back_ways fb]
end Nv
set_option Elab.async false
set_option linter.all false
set_option maxRecDepth 100000
namespace Nv
open PySem PySem.Spec PyProof.Rows L2
section
variable {P : Program} {w : World} {K : PySem.W.Frag} {mg : Str → Option Value} {base : Heap}
/-! ### the law's own ends -/
/-! ### the law's own ways back -/
/-! ### the least numbers of ways back -/
def firstM (b : Book) (s t : Nat) : List Nat := ((List.range' 1 b.length).filter fun m => decide (s ∈ endsL b t m)).take 1
def backsM (b : Book) (s : Nat) (st : State) : List Nat := st.flatMap fun p => firstM b s p.2
theorem backs_len (b : Book) (s : Nat) : ∀ st : State, (backsM b s st).length ≤ st.length
  | [] => Nat.le_refl _
  | p :: r => by
    have := backs_len b s r
    have f1 : (firstM b s p.2).length ≤ 1 := by unfold firstM; rw [List.length_take]; omega
    show ((firstM b s p.2) ++ backsM b s r).length ≤ r.length + 1
    rw [List.length_append]
    omega
theorem cut1 (xs : List V) : cutV xs none (some 1) = xs.take 1 := by
  unfold cutV
  cases xs with
  | nil => simp
  | cons x r => simp [HT.sIx]
theorem sorted_natsD {F : List Nat} {ns : List Int} (p : ns.Perm (F.map fun n : Nat => (n : Int))) (r : ns.Pairwise (· ≤ ·)) : ∃ ms : List Nat, ns.map V.int = ms.map nV ∧ ms.Perm F ∧ ms.Pairwise (· ≤ ·) := by
  have nn : ∀ z ∈ ns, ∃ n : Nat, z = (n : Int) := fun z hz => by
    obtain ⟨n, _, rfl⟩ := List.mem_map.mp (p.mem_iff.mp hz)
    exact ⟨n, rfl⟩
  refine ⟨ns.map Int.toNat, ?_, ?_, ?_⟩
  · rw [List.map_map]
    refine List.map_congr_left fun z hz => ?_
    obtain ⟨n, rfl⟩ := nn z hz
    rfl
  · have q := p.map Int.toNat
    rw [List.map_map] at q
    have e : F.map (Int.toNat ∘ fun n : Nat => (n : Int)) = F := by
      conv => rhs; rw [← List.map_id F]
      exact List.map_congr_left fun z _ => rfl
    rw [e] at q
    exact q
  · rw [List.pairwise_map]
    refine List.Pairwise.imp_of_mem (fun {a b} ha hb h => ?_) r
    obtain ⟨n, rfl⟩ := nn a ha
    obtain ⟨m, rfl⟩ := nn b hb
    simp
    omega
end
end Nv
set_option linter.all false
namespace Nv
/-! ### what lasts -/
theorem setAll_get : ∀ (L : List Nat) (r : List (Option Int)) (x : Int) (k : Nat), (setAll r L x)[k]? = if k ∈ L ∧ k < r.length then some (some x) else r[k]?
  | [], r, x, k => by simp [setAll]
  | f :: L, r, x, k => by
    show (setAll (r.set f (some x)) L x)[k]? = _
    rw [setAll_get L, List.length_set]
    by_cases h1 : k < r.length
    · by_cases h2 : k ∈ L
      · simp [h1, h2]
      · by_cases h3 : k = f
        · subst h3
          simp [h1, h2]
        · have : ¬ f = k := fun z => h3 z.symm
          simp [h1, h2, h3, this]
    · have : r[k]? = none := List.getElem?_eq_none (by omega)
      simp [h1, this]
theorem rk_sub {b : Book} {W t : Nat} {st fin : List Nat} {r res : List (Option Int)} (h : Rk b W t st r res fin) : ∀ k ∈ fin, k ∈ st := by
  induction h with
  | stop _ => exact fun k hk => hk
  | go _ _ ih => exact fun k hk => (List.mem_filter.mp (ih k hk)).1
theorem rk_stable {b : Book} {W t : Nat} {st fin : List Nat} {r res : List (Option Int)} (h : Rk b W t st r res fin) : ∀ s ∈ fin, 2 ≤ (leadM b W s fin).length := by
  induction h with
  | @stop t st r e =>
    intro s hs
    by_cases h : 2 ≤ (leadM b W s st).length
    · exact h
    · exfalso
      have : s ∈ fallM b W st := List.mem_filter.mpr ⟨hs, decide_eq_true (Nat.lt_of_not_le h)⟩
      rw [e] at this
      cases this
  | go _ _ ih => exact ih
theorem rk_stay {b : Book} {W t : Nat} {st fin : List Nat} {r res : List (Option Int)} (h : Rk b W t st r res fin) {s : Nat} (hs : s ∈ st) (two : ∀ goals : List Nat, s ∈ goals → 2 ≤ (leadM b W s goals).length) : s ∈ fin := by
  induction h with
  | stop _ => exact hs
  | @go t st fin r res _ _ ih =>
    refine ih (List.mem_filter.mpr ⟨hs, ?_⟩)
    have : s ∉ fallM b W st := fun z => by
      have := of_decide_eq_true (List.mem_filter.mp z).2
      have := two st hs
      omega
    rw [decide_eq_false this]
    rfl
theorem rk_fin {b : Book} {W t : Nat} {st fin : List Nat} {r res : List (Option Int)} (h : Rk b W t st r res fin) : (∀ k ∈ st, k < r.length) → (∀ k, k ∉ st → r[k]? ≠ some (some (-1))) → ∀ k, res[k]? = some (some (-1)) ↔ k ∈ fin := by
  induction h with
  | @stop t st r _ =>
    intro h1 h2 k
    rw [setAll_get]
    by_cases hk : k ∈ st
    · rw [if_pos ⟨hk, h1 k hk⟩]
      exact ⟨fun _ => hk, fun _ => rfl⟩
    · rw [if_neg (fun z => hk z.1)]
      exact ⟨fun z => absurd z (h2 k hk), fun z => absurd z hk⟩
  | @go t st fin r res _ _ ih =>
    intro h1 h2
    refine ih (fun k hk => by rw [setAll_len]; exact h1 k (List.mem_filter.mp hk).1) fun k hk => ?_
    rw [setAll_get]
    by_cases hf : k ∈ fallM b W st
    · have := h1 k (List.mem_filter.mp hf).1
      rw [if_pos ⟨hf, this⟩]
      intro z
      have := Option.some.inj (Option.some.inj z)
      omega
    · rw [if_neg (fun z => hf z.1)]
      refine h2 k fun z => hk (List.mem_filter.mpr ⟨z, ?_⟩)
      rw [decide_eq_false hf]
      rfl
theorem forks_lt {b : Book} {k : Nat} (h : k ∈ forksM b) : k < b.length := (mem_filt.mp h).1
theorem last_iff {b : Book} {W : Nat} {res : List (Option Int)} {fin : List Nat} (h : LastM b W res fin) (k : Nat) : k ∈ lastL b res ↔ k ∈ fin := by
  have key := rk_fin h (fun k hk => by rw [List.length_replicate]; exact forks_lt hk) (fun k _ z => by
    by_cases hk : k < b.length
    · rw [List.getElem?_replicate, if_pos hk] at z
      cases z
    · rw [List.getElem?_replicate, if_neg hk] at z
      cases z) k
  unfold lastL
  rw [mem_filt, decide_eq_true_eq, key]
  exact ⟨fun z => z.2, fun z => ⟨forks_lt (rk_sub h k z), z⟩⟩
theorem last_nil {b : Book} {W : Nat} {res : List (Option Int)} {fin : List Nat} (h : LastM b W res fin) : lastL b res = [] ↔ fin = [] := by
  constructor
  · intro e
    rw [List.eq_nil_iff_forall_not_mem]
    exact fun k hk => by have := (last_iff h k).mpr hk; rw [e] at this; cases this
  · intro e
    rw [List.eq_nil_iff_forall_not_mem]
    exact fun k hk => by have := (last_iff h k).mp hk; rw [e] at this; cases this
theorem least_two {b : Book} {res : List (Option Int)} (h : lastL b res = []) : leastM b res ≤ 2 := by
  unfold leastM
  split
  · omega
  · split
    · omega
    · simp [h]
theorem least_three {b : Book} {res : List (Option Int)} (h : leastM b res = 3) : lastL b res ≠ [] := fun e => by
  have := least_two e
  omega
/-! ### a stable set has a knot -/
theorem filt_le {α : Type} {l : List α} {f g : α → Bool} (h : ∀ x ∈ l, f x = true → g x = true) : (l.filter f).length ≤ (l.filter g).length := by
  rw [← List.countP_eq_length_filter, ← List.countP_eq_length_filter]
  exact List.countP_mono_left h
theorem led_rt {b : Book} (fb : FormB b) {t m k : Nat} (ht : t < b.length) (h : k ∈ ledL b t m) : Rt b t k := by
  unfold ledL at h
  split at h
  · cases h
  · exact wi_rt fb ht _ _ h
theorem clo_le {b : Book} (fb : FormB b) {s x : Nat} (hs : s < b.length) (hx : x < b.length) (h1 : Rt b s x) (h2 : ¬ Rt b x s) : (wiL b x (b.length - 1)).length < (wiL b s (b.length - 1)).length := by
  have nd : (s :: wiL b x (b.length - 1)).Nodup := List.nodup_cons.mpr ⟨fun z => h2 (wi_rt fb hx _ _ z), srt_nodup (wiL_srt _ _ _)⟩
  have := List.Nodup.length_le_of_subset nd (l₂ := wiL b s (b.length - 1)) fun z hz => by
    rcases List.mem_cons.mp hz with hz | hz
    · rw [hz]; exact rt_wi fb hs (.refl s)
    · exact rt_wi fb hs (h1.trans (wi_rt fb hx _ _ hz))
  rw [List.length_cons] at this
  omega
theorem bottom {b : Book} (fb : FormB b) {S : List Nat} (hS : ∀ k ∈ S, k < b.length) : ∀ (m s : Nat), s ∈ S → (wiL b s (b.length - 1)).length ≤ m → ∃ s' ∈ S, ∀ x ∈ S, Rt b s' x → Rt b x s' := by
  intro m
  induction m with
  | zero =>
    intro s hs h
    have := rt_wi fb (hS s hs) (.refl s)
    have := List.length_pos_of_mem this
    omega
  | succ m ih =>
    intro s hs h
    by_cases all : ∀ x ∈ S, Rt b s x → Rt b x s
    · exact ⟨s, hs, all⟩
    · obtain ⟨x, hx⟩ := Classical.not_forall.mp all
      obtain ⟨hxS, hx⟩ := Classical.not_imp.mp hx
      obtain ⟨h1, h2⟩ := Classical.not_imp.mp hx
      have := clo_le fb (hS s hs) (hS x hxS) h1 h2
      exact ih x hxS (by omega)
theorem mem_reach {b : Book} (fb : FormB b) {t k : Nat} (ht : t < b.length) : k ∈ reachL b t b.length ↔ Rt b t k := by
  unfold reachL
  exact mem_wi fb ht (by omega)
theorem stable_knot {b : Book} (fb : FormB b) {W : Nat} {S : List Nat} (hS : ∀ k ∈ S, k < b.length) (ne : S ≠ []) (st : ∀ s ∈ S, 2 ≤ (leadM b W s S).length) : knotsM b ≠ [] := by
  obtain ⟨s0, h0⟩ := List.exists_mem_of_ne_nil _ ne
  obtain ⟨s, hs, hb⟩ := bottom fb hS _ s0 h0 (Nat.le_refl _)
  have two := st s hs
  have : s ∈ knotsM b := by
    refine mem_filt.mpr ⟨hS s hs, decide_eq_true ?_⟩
    refine Nat.lt_of_lt_of_le two ?_
    unfold leadM waysM
    rw [List.length_map]
    refine filt_le fun p hp h => ?_
    obtain ⟨k, hk, hkS⟩ := List.any_eq_true.mp h
    have hkS := of_decide_eq_true hkS
    have hp2 := fb.to hp
    have r := led_rt fb hp2 hk
    exact decide_eq_true ((mem_reach fb hp2).mpr (r.trans (hb k hkS ((Rt.one hp).trans r))))
  exact List.ne_nil_of_mem this
theorem no_knots {b : Book} (fb : FormB b) (h : knotsM b = []) {W : Nat} {res : List (Option Int)} {fin : List Nat} (hL : LastM b W res fin) : lastL b res = [] := by
  rw [last_nil hL]
  by_cases e : fin = []
  · exact e
  · exact absurd h (stable_knot fb (fun k hk => forks_lt (rk_sub hL k hk)) e (rk_stable hL))
theorem win_one {b : Book} {res : List (Option Int)} {fin : List Nat} (hL : LastM b 1 res fin) : lastL b res = [] := by
  rw [last_nil hL, List.eq_nil_iff_forall_not_mem]
  intro k hk
  have := rk_stable hL k hk
  have e : leadM b 1 k fin = [] := by
    unfold leadM
    have : (mvs b k).filter (fun p => (ledL b p.2 (1 - 1)).any fun k => decide (k ∈ fin)) = [] := List.filter_eq_nil_iff.mpr fun p _ => by simp [ledL]
    rw [this]
    rfl
  rw [e] at this
  simp at this
/-! ### a knot lasts for the window behind its second shortest way back -/
theorem ends_mono {b : Book} (fb : FormB b) {t : Nat} (ht : t < b.length) {m n k : Nat} (h : m ≤ n) (hk : k ∈ endsL b t m) : k ∈ endsL b t n := by
  obtain ⟨j, hj, e⟩ := (mem_ends fb ht).mp hk
  exact (mem_ends fb ht).mpr ⟨j, by omega, e⟩
theorem first_mem {b : Book} {s t k : Nat} (h : k ∈ firstM b s t) : 1 ≤ k ∧ k ≤ b.length ∧ s ∈ endsL b t k := by
  unfold firstM at h
  have h := List.mem_filter.mp (List.mem_of_mem_take h)
  have h1 := List.mem_range'_1.mp h.1
  exact ⟨h1.1, by omega, of_decide_eq_true h.2⟩
theorem first_some {b : Book} (fb : FormB b) {s t : Nat} (ht : t < b.length) (h : Rt b t s) : (firstM b s t).length = 1 := by
  have h1 := fb.one
  have hm : b.length ∈ (List.range' 1 b.length).filter fun m => decide (s ∈ endsL b t m) := by
    refine List.mem_filter.mpr ⟨List.mem_range'_1.mpr ⟨h1, by omega⟩, decide_eq_true ?_⟩
    unfold endsL
    rw [if_neg (by omega)]
    exact rt_wi fb ht h
  have := List.length_pos_of_mem hm
  unfold firstM
  rw [List.length_take]
  omega
theorem backs_ge {b : Book} (fb : FormB b) (s : Nat) : ∀ st : State, (∀ p ∈ st, p.2 < b.length) → (st.filter fun p => decide (s ∈ reachL b p.2 b.length)).length ≤ (backsM b s st).length
  | [], _ => Nat.le_refl _
  | p :: r, h => by
    have ih := backs_ge fb s r fun q hq => h q (List.mem_cons_of_mem _ hq)
    have hp := h p (by simp)
    show _ ≤ ((firstM b s p.2) ++ backsM b s r).length
    rw [List.length_append, List.filter_cons]
    by_cases e : s ∈ reachL b p.2 b.length
    · have := first_some fb hp ((mem_reach fb hp).mp e)
      rw [if_pos (decide_eq_true e), List.length_cons]
      omega
    · rw [if_neg (by simpa using e)]
      omega
theorem backs_le {b : Book} (fb : FormB b) (s m : Nat) : ∀ st : State, (∀ p ∈ st, p.2 < b.length) → (backsM b s st).countP (fun k => decide (k ≤ m)) ≤ (st.filter fun p => decide (s ∈ endsL b p.2 m)).length
  | [], _ => Nat.le_refl _
  | p :: r, h => by
    have ih := backs_le fb s m r fun q hq => h q (List.mem_cons_of_mem _ hq)
    have hp := h p (by simp)
    show ((firstM b s p.2) ++ backsM b s r).countP _ ≤ _
    rw [List.countP_append, List.filter_cons]
    by_cases e : s ∈ endsL b p.2 m
    · rw [if_pos (decide_eq_true e), List.length_cons]
      have : (firstM b s p.2).countP (fun k => decide (k ≤ m)) ≤ 1 := Nat.le_trans List.countP_le_length (by unfold firstM; rw [List.length_take]; omega)
      omega
    · rw [if_neg (by simpa using e)]
      have : (firstM b s p.2).countP (fun k => decide (k ≤ m)) = 0 := by
        rw [List.countP_eq_zero]
        intro k hk z
        have z := of_decide_eq_true z
        exact e (ends_mono fb hp z (first_mem hk).2.2)
      omega
theorem backs_mem {b : Book} {s k : Nat} {st : State} (h : k ∈ backsM b s st) : 1 ≤ k ∧ k ≤ b.length := by
  obtain ⟨p, _, hp⟩ := List.mem_flatMap.mp h
  have := first_mem hp
  exact ⟨this.1, this.2.1⟩
theorem knot_win {b : Book} (fb : FormB b) {s : Nat} (hs : s ∈ knotsM b) {ms : List Nat} (hp : ms.Perm (backsM b s (mvs b s))) (hr : ms.Pairwise (· ≤ ·)) :
    ∃ m, ms[1]? = some m ∧ 1 ≤ m ∧ m ≤ b.length ∧ ∀ goals : List Nat, s ∈ goals → 2 ≤ (leadM b (m + 1) s goals).length := by
  have to : ∀ p ∈ mvs b s, p.2 < b.length := fun p hp => fb.to hp
  have hk := of_decide_eq_true (mem_filt.mp hs).2
  have hl : 2 ≤ ms.length := by
    rw [hp.length_eq]
    exact Nat.le_trans hk (backs_ge fb s _ to)
  match ms, hl, hp, hr with
  | x :: y :: r, _, hp, hr =>
    have hxy : x ≤ y := (List.pairwise_cons.mp hr).1 y (by simp)
    have hy := backs_mem (hp.mem_iff.mp (show y ∈ x :: y :: r by simp))
    refine ⟨y, rfl, hy.1, hy.2, fun goals hg => ?_⟩
    have c2 : 2 ≤ (x :: y :: r).countP (fun k => decide (k ≤ y)) := by
      rw [List.countP_cons, List.countP_cons]
      simp [hxy]
    rw [hp.countP_eq] at c2
    have := backs_le fb s y _ to
    refine Nat.le_trans (Nat.le_trans c2 this) ?_
    unfold leadM
    rw [List.length_map]
    refine filt_le fun p hp h => ?_
    have h := of_decide_eq_true h
    refine List.any_eq_true.mpr ⟨s, ?_, decide_eq_true hg⟩
    unfold endsL at h
    rw [if_neg (by omega)] at h
    unfold ledL reachL
    rw [if_neg (by omega)]
    have : min (y + 1 - 1 - 1) b.length = y - 1 := by omega
    rw [this]
    exact h
theorem knot_fork {b : Book} {s : Nat} (hs : s ∈ knotsM b) : s ∈ forksM b ∧ s < b.length := by
  have h := mem_filt.mp hs
  refine ⟨mem_filt.mpr ⟨h.1, decide_eq_true ?_⟩, h.1⟩
  have := of_decide_eq_true h.2
  unfold waysM at this
  exact Nat.lt_of_lt_of_le this (List.length_filter_le _ _)
theorem rch_zero {b : Book} (e : mvs b 0 = []) {s : Nat} (h : Rch b s) : s = 0 := by
  induction h with
  | zero => rfl
  | step _ hp ih =>
    rw [ih, e] at hp
    cases hp
theorem knot_three {b : Book} (ok : OkB b) {s m : Nat} (hs : s ∈ knotsM b) (two : ∀ goals : List Nat, s ∈ goals → 2 ≤ (leadM b (m + 1) s goals).length) {res : List (Option Int)} {fin : List Nat} (hL : LastM b (m + 1) res fin) :
    s ∈ lastL b res ∧ leastM b res = 3 := by
  obtain ⟨hf, hlt⟩ := knot_fork hs
  have h1 : s ∈ lastL b res := (last_iff hL s).mpr (rk_stay hL hf two)
  refine ⟨h1, ?_⟩
  unfold leastM
  rw [if_neg, if_neg (List.ne_nil_of_mem hf), if_neg (List.ne_nil_of_mem h1)]
  intro e
  have := rch_zero e (ok.reach s hlt)
  subst this
  have := of_decide_eq_true (mem_filt.mp hf).2
  rw [e] at this
  simp at this
/-- the first window, where there are knots -/
theorem from_knot {b : Book} (ok : OkB b) {o : Option Nat} (h : FromW b o) {s : Nat} (hs : s ∈ knotsM b) : ∃ W, o = some W ∧ 2 ≤ W ∧ W ≤ 9 := by
  have fb := ok.toFormB
  obtain ⟨ms, hp, hr⟩ : ∃ ms : List Nat, ms.Perm (backsM b s (mvs b s)) ∧ ms.Pairwise (· ≤ ·) :=
    ⟨(backsM b s (mvs b s)).mergeSort, List.mergeSort_perm _ _, by
      have := List.pairwise_mergeSort (le := fun a b : Nat => decide (a ≤ b)) (by simp; omega) (by simp; omega) (backsM b s (mvs b s))
      exact List.Pairwise.imp (fun h => of_decide_eq_true h) this⟩
  obtain ⟨m, _, m1, m2, two⟩ := knot_win fb hs hp hr
  have h8 := fb.eight
  cases o with
  | none =>
    exfalso
    obtain ⟨res, fin, hL⟩ := rk_ex b (m + 1) _ 0 (forksM b) (List.replicate b.length none) (Nat.le_refl _)
    exact h (m + 1) (by omega) (by omega) res fin hL (knot_three ok hs two hL).2
  | some W =>
    obtain ⟨w1, w9, ⟨res, fin, hL, e⟩, _⟩ := h
    refine ⟨W, rfl, ?_, w9⟩
    by_cases hW : W = 1
    · subst hW
      exact absurd (win_one hL) (least_three e)
    · omega
theorem from_le {b : Book} {W V : Nat} (h : FromW b (some W)) (hV : 1 ≤ V) {res : List (Option Int)} {fin : List Nat} (hL : LastM b V res fin) (e : leastM b res = 3) : W ≤ V := by
  by_cases hlt : W ≤ V
  · exact hlt
  · exact absurd e (h.2.2.2 V hV (by omega) res fin hL)
theorem from_none {b : Book} (fb : FormB b) (h : knotsM b = []) {o : Option Nat} (hw : FromW b o) : o = none := by
  cases o with
  | none => rfl
  | some W =>
    obtain ⟨_, _, ⟨res, fin, hL, e⟩, _⟩ := hw
    exact absurd (no_knots fb h hL) (least_three e)
end Nv
set_option linter.all false
namespace Nv
/-! ### windows that grow -/
theorem lead_goals {b : Book} {W s : Nat} {S st : List Nat} (h : ∀ k ∈ S, k ∈ st) : (leadM b W s S).length ≤ (leadM b W s st).length := by
  unfold leadM
  rw [List.length_map, List.length_map]
  refine filt_le fun p _ e => ?_
  obtain ⟨k, hk, e⟩ := List.any_eq_true.mp e
  exact List.any_eq_true.mpr ⟨k, hk, decide_eq_true (h k (of_decide_eq_true e))⟩
theorem rk_greatest {b : Book} {W t : Nat} {st fin S : List Nat} {r res : List (Option Int)} (h : Rk b W t st r res fin) (two : ∀ s ∈ S, 2 ≤ (leadM b W s S).length) : (∀ k ∈ S, k ∈ st) → ∀ k ∈ S, k ∈ fin := by
  induction h with
  | stop _ => exact fun h => h
  | @go t st fin r res _ _ ih =>
    intro h
    refine ih fun k hk => List.mem_filter.mpr ⟨h k hk, ?_⟩
    have : k ∉ fallM b W st := fun z => by
      have := of_decide_eq_true (List.mem_filter.mp z).2
      have := two k hk
      have := lead_goals (b := b) (W := W) (s := k) h
      omega
    rw [decide_eq_false this]
    rfl
theorem led_mono {b : Book} (fb : FormB b) {t m n k : Nat} (ht : t < b.length) (h : m ≤ n) (hk : k ∈ ledL b t m) : k ∈ ledL b t n := by
  unfold ledL at hk ⊢
  split at hk
  · cases hk
  · rw [if_neg (by omega)]
    exact wi_mono fb ht (by omega) hk
theorem lead_mono {b : Book} (fb : FormB b) {W V s : Nat} {S : List Nat} (h : W ≤ V) : (leadM b W s S).length ≤ (leadM b V s S).length := by
  unfold leadM
  rw [List.length_map, List.length_map]
  refine filt_le fun p hp e => ?_
  obtain ⟨k, hk, e⟩ := List.any_eq_true.mp e
  exact List.any_eq_true.mpr ⟨k, led_mono fb (fb.to hp) (by omega) hk, e⟩
theorem last_mono {b : Book} (fb : FormB b) {W V : Nat} (h : W ≤ V) {res res' : List (Option Int)} {fin fin' : List Nat} (hW : LastM b W res fin) (hV : LastM b V res' fin') : ∀ k ∈ lastL b res, k ∈ lastL b res' := by
  intro k hk
  rw [last_iff hV]
  rw [last_iff hW] at hk
  exact rk_greatest hV (fun s hs => Nat.le_trans (rk_stable hW s hs) (lead_mono fb h)) (rk_sub hW) k hk
theorem led_full {b : Book} (fb : FormB b) {t m : Nat} (ht : t < b.length) (h : b.length ≤ m) : ledL b t m = ledL b t b.length := by
  have h1 := fb.one
  unfold ledL reachL
  rw [if_neg (by omega), if_neg (by omega), wi_full fb ht _ (by omega), wi_full fb ht (min (b.length - 1) b.length) (by omega)]
theorem lead_full {b : Book} (fb : FormB b) {W : Nat} (h : b.length + 1 ≤ W) (s : Nat) (S : List Nat) : leadM b W s S = leadM b (b.length + 1) s S := by
  unfold leadM
  congr 1
  refine List.filter_congr fun p hp => ?_
  rw [led_full fb (fb.to hp) (by omega), led_full fb (m := b.length + 1 - 1) (fb.to hp) (by omega)]
theorem fall_cong {b : Book} {W V : Nat} (e : ∀ s S, leadM b W s S = leadM b V s S) (st : List Nat) : fallM b W st = fallM b V st := by
  unfold fallM
  exact List.filter_congr fun f _ => by rw [e]
theorem rest_cong {b : Book} {W V : Nat} (e : ∀ s S, leadM b W s S = leadM b V s S) (st : List Nat) : restM b W st = restM b V st := by
  unfold restM
  rw [fall_cong e]
theorem rk_cong {b : Book} {W V : Nat} (e : ∀ s S, leadM b W s S = leadM b V s S) {t : Nat} {st fin : List Nat} {r res : List (Option Int)} (h : Rk b W t st r res fin) : Rk b V t st r res fin := by
  induction h with
  | stop h => exact .stop (by rw [← fall_cong e]; exact h)
  | @go t st fin r res h _ ih =>
    refine .go (by rw [← fall_cong e]; exact h) ?_
    rw [← fall_cong e, ← rest_cong e]
    exact ih
theorem last_full {b : Book} (fb : FormB b) {W : Nat} (h : b.length + 1 ≤ W) {res : List (Option Int)} {fin : List Nat} (hL : LastM b W res fin) : LastM b (b.length + 1) res fin := rk_cong (lead_full fb h) hL
theorem last_fun {b : Book} {W : Nat} {res res' : List (Option Int)} {fin fin' : List Nat} (h : LastM b W res fin) (h' : LastM b W res' fin') : res = res' := (rk_fun h h').1
/-! ### which ranks come -/
theorem rk_none {b : Book} {W n : Nat} {F : List Nat} {t : Nat} {st fin : List Nat} {r res : List (Option Int)} (h : Rk b W t st r res fin) : r.length = n → (∀ k ∈ st, k ∈ F) → (∀ k, r[k]? = some none ↔ k < n ∧ (k ∈ st ∨ k ∉ F)) → ∀ k, res[k]? = some none ↔ k < n ∧ k ∉ F := by
  induction h with
  | @stop t st r _ =>
    intro hn hF hr k
    rw [setAll_get]
    by_cases hk : k ∈ st ∧ k < r.length
    · rw [if_pos hk]
      exact ⟨fun z => (nomatch z), fun z => absurd (hF k hk.1) z.2⟩
    · rw [if_neg hk, hr k]
      constructor
      · rintro ⟨h1, h2 | h2⟩
        · exact absurd ⟨h2, by omega⟩ hk
        · exact ⟨h1, h2⟩
      · exact fun z => ⟨z.1, .inr z.2⟩
  | @go t st fin r res _ _ ih =>
    intro hn hF hr
    refine ih (by rw [setAll_len]; exact hn) (fun k hk => hF k (List.mem_filter.mp hk).1) fun k => ?_
    rw [setAll_get]
    by_cases hk : k ∈ fallM b W st ∧ k < r.length
    · rw [if_pos hk]
      refine ⟨fun z => (nomatch z), ?_⟩
      rintro ⟨_, h2 | h2⟩
      · have := (List.mem_filter.mp h2).2
        rw [decide_eq_true hk.1] at this
        cases this
      · exact absurd (hF k (List.mem_filter.mp hk.1).1) h2
    · rw [if_neg hk, hr k]
      constructor
      · rintro ⟨h1, h2 | h2⟩
        · refine ⟨h1, .inl (List.mem_filter.mpr ⟨h2, ?_⟩)⟩
          rw [decide_eq_false (fun z => hk ⟨z, by omega⟩)]
          rfl
        · exact ⟨h1, .inr h2⟩
      · rintro ⟨h1, h2 | h2⟩
        · exact ⟨h1, .inl (List.mem_filter.mp h2).1⟩
        · exact ⟨h1, .inr h2⟩
theorem rk_vals {b : Book} {W : Nat} {t : Nat} {st fin : List Nat} {r res : List (Option Int)} (h : Rk b W t st r res fin) : (∀ k ∈ st, r[k]? = some none) → (∀ v : Nat, (∃ k : Nat, r[k]? = some (some (v : Int))) ↔ v < t) → ∃ m, ∀ v : Nat, (∃ k : Nat, res[k]? = some (some (v : Int))) ↔ v < m := by
  induction h with
  | @stop t st r _ =>
    intro hs hv
    refine ⟨t, fun v => ?_⟩
    rw [← hv v]
    constructor
    · rintro ⟨k, hk⟩
      rw [setAll_get] at hk
      split at hk
      · have := Option.some.inj (Option.some.inj hk)
        omega
      · exact ⟨k, hk⟩
    · rintro ⟨k, hk⟩
      refine ⟨k, ?_⟩
      rw [setAll_get, if_neg]
      · exact hk
      · rintro ⟨h1, _⟩
        rw [hs k h1] at hk
        cases hk
  | @go t st fin r res hne _ ih =>
    intro hs hv
    refine ih (fun k hk => ?_) fun v => ?_
    · obtain ⟨h1, h2⟩ := List.mem_filter.mp hk
      rw [setAll_get, if_neg]
      · exact hs k h1
      · rintro ⟨h3, _⟩
        rw [decide_eq_true h3] at h2
        cases h2
    · constructor
      · rintro ⟨k, hk⟩
        rw [setAll_get] at hk
        split at hk
        · have := Option.some.inj (Option.some.inj hk)
          omega
        · have := (hv v).mp ⟨k, hk⟩
          omega
      · intro h
        by_cases hvt : v = t
        · obtain ⟨k, hk⟩ := List.exists_mem_of_ne_nil _ hne
          have hk1 := hs k (List.mem_filter.mp hk).1
          refine ⟨k, ?_⟩
          rw [setAll_get, if_pos ⟨hk, (List.getElem?_eq_some_iff.mp hk1).1⟩, hvt]
        · obtain ⟨k, hk⟩ := (hv v).mpr (by omega)
          refine ⟨k, ?_⟩
          rw [setAll_get, if_neg]
          · exact hk
          · rintro ⟨h1, _⟩
            rw [hs k (List.mem_filter.mp h1).1] at hk
            cases hk
theorem rep_none {n k : Nat} : (List.replicate n (none : Option Int))[k]? = some none ↔ k < n := by
  rw [List.getElem?_replicate]
  split <;> simp [*]
theorem last_none {b : Book} {W : Nat} {res : List (Option Int)} {fin : List Nat} (h : LastM b W res fin) (k : Nat) : res[k]? = some none ↔ k < b.length ∧ k ∉ forksM b :=
  rk_none h List.length_replicate (fun k hk => hk) (fun k => by
    rw [rep_none]
    exact ⟨fun z => ⟨z, by by_cases h : k ∈ forksM b; exact .inl h; exact .inr h⟩, fun z => z.1⟩) k
theorem last_vals {b : Book} {W : Nat} {res : List (Option Int)} {fin : List Nat} (h : LastM b W res fin) : ∃ m, ∀ v : Nat, (∃ k : Nat, res[k]? = some (some (v : Int))) ↔ v < m :=
  by
    refine rk_vals h (fun k hk => rep_none.mpr (forks_lt hk)) fun v => ?_
    constructor
    · rintro ⟨k, hk⟩
      rw [List.getElem?_replicate] at hk
      split at hk <;> cases hk
    · exact fun z => absurd z (Nat.not_lt_zero v)
/-! ### three wires from the first window on -/
theorem three_iff {b : Book} {W : Nat} {res : List (Option Int)} {fin : List Nat} (h : LastM b W res fin) : leastM b res = 3 ↔ mvs b 0 ≠ [] ∧ lastL b res ≠ [] := by
  unfold leastM
  constructor
  · intro e
    split at e
    · omega
    · rename_i h1
      split at e
      · omega
      · split at e
        · omega
        · rename_i h2
          exact ⟨h1, h2⟩
  · rintro ⟨h1, h2⟩
    obtain ⟨k, hk⟩ := List.exists_mem_of_ne_nil _ h2
    have : forksM b ≠ [] := List.ne_nil_of_mem (rk_sub h k ((last_iff h k).mp hk))
    rw [if_neg h1, if_neg this, if_neg h2]
theorem three_mono {b : Book} (fb : FormB b) {W V : Nat} (h : W ≤ V) {res res' : List (Option Int)} {fin fin' : List Nat} (hW : LastM b W res fin) (hV : LastM b V res' fin') (e : leastM b res = 3) : leastM b res' = 3 := by
  obtain ⟨h1, h2⟩ := (three_iff hW).mp e
  obtain ⟨k, hk⟩ := List.exists_mem_of_ne_nil _ h2
  exact (three_iff hV).mpr ⟨h1, List.ne_nil_of_mem (last_mono fb h hW hV k hk)⟩
theorem last_ex (b : Book) (W : Nat) : ∃ res fin, LastM b W res fin := rk_ex b W _ 0 (forksM b) (List.replicate b.length none) (Nat.le_refl _)
theorem from_iff {b : Book} (fb : FormB b) {o : Option Nat} (ho : FromW b o) {W : Nat} (h1 : 1 ≤ W) {res : List (Option Int)} {fin : List Nat} (hW : LastM b W res fin) : leastM b res = 3 ↔ ∃ V, o = some V ∧ V ≤ W := by
  have h8 := fb.eight
  cases o with
  | none =>
    constructor
    · intro e
      exfalso
      by_cases h9 : W ≤ 9
      · exact ho W h1 h9 res fin hW e
      · exact ho (b.length + 1) (by omega) (by omega) res fin (last_full fb (by omega) hW) e
    · rintro ⟨V, e, _⟩
      cases e
  | some V =>
    constructor
    · exact fun e => ⟨V, rfl, from_le ho h1 hW e⟩
    · rintro ⟨V', e, hV⟩
      have e := Option.some.inj e
      subst e
      obtain ⟨_, _, ⟨res0, fin0, hL0, e0⟩, _⟩ := ho
      exact three_mono fb hV hL0 hW e0
theorem from_small {b : Book} (fb : FormB b) {V : Nat} (ho : FromW b (some V)) : V ≤ b.length + 1 := by
  by_cases h : V ≤ b.length + 1
  · exact h
  · obtain ⟨res, fin, hL⟩ := last_ex b V
    have e := (from_iff fb ho ho.1 hL).mpr ⟨V, rfl, Nat.le_refl _⟩
    exact from_le ho (by omega) (last_full fb (by omega) hL) e
/-! ### the law's own rounds -/
theorem led_ends {b : Book} (fb : FormB b) {t m k : Nat} (ht : t < b.length) : k ∈ ledL b t m ↔ k ∈ endsL b t (min m 8) := by
  have h8 := fb.eight
  unfold ledL endsL
  by_cases h : m = 0
  · subst h
    simp
  · rw [if_neg h, if_neg (by omega)]
    unfold reachL
    by_cases h9 : m ≤ b.length
    · have e1 : min (m - 1) b.length = m - 1 := by omega
      have e2 : min m 8 - 1 = m - 1 := by omega
      rw [e1, e2]
    · rw [mem_wi fb ht (by omega), mem_wi fb ht (by omega)]
def lotsM (b : Book) (W s : Nat) : List (List Nat) := (mvs b s).map fun p => endsL b p.2 (min (W - 1) 8)
theorem good_len {b : Book} (fb : FormB b) (W s : Nat) (st : List Nat) : ((lotsM b W s).filter fun l => !decide ((l.filter fun k => decide (k ∈ st)) = [])).length = (leadM b W s st).length := by
  unfold lotsM leadM
  rw [List.filter_map, List.length_map, List.length_map]
  congr 1
  refine List.filter_congr fun p hp => ?_
  have hp2 := fb.to hp
  show (!decide (((endsL b p.2 (min (W - 1) 8)).filter fun k => decide (k ∈ st)) = [])) = (ledL b p.2 (W - 1)).any fun k => decide (k ∈ st)
  by_cases h : ((endsL b p.2 (min (W - 1) 8)).filter fun k => decide (k ∈ st)) = []
  · rw [decide_eq_true h]
    symm
    rw [Bool.not_true, List.any_eq_false]
    intro k hk z
    have := List.filter_eq_nil_iff.mp h k ((led_ends fb hp2).mp hk)
    exact this z
  · rw [decide_eq_false h]
    symm
    obtain ⟨k, hk⟩ := List.exists_mem_of_ne_nil _ h
    obtain ⟨h1, h2⟩ := List.mem_filter.mp hk
    exact List.any_eq_true.mpr ⟨k, (led_ends fb hp2).mpr h1, h2⟩
end Nv
set_option linter.all false
namespace Nv
open PySem PySem.Spec PyProof.Rows L2
/-! ### rows, by their length -/
def lvM (b : Book) (s : Nat) : Nat → List (List Nat × Nat)
  | 0 => [([], s)]
  | n + 1 => ((lvM b s n).map fun q => (mvs b q.2).map fun p => (q.1 ++ [p.1], p.2)).flatten
def rowsM (b : Book) (s : Nat) : Nat → List (List Nat)
  | 0 => [[]]
  | n + 1 => rowsM b s n ++ (lvM b s (n + 1)).map (·.1)
def nextM (b : Book) (s m : Nat) : Option Nat := ((mvs b s).find? fun p => decide (p.1 = m)).map (·.2)
def atM (b : Book) : Nat → List Nat → Option Nat
  | s, [] => some s
  | s, m :: r => match nextM b s m with
    | some t => atM b t r
    | none => none
theorem msg_inj {b : Book} (fb : FormB b) {s : Nat} {p q : Nat × Nat} (hp : p ∈ mvs b s) (hq : q ∈ mvs b s) (e : p.1 = q.1) : p = q := by
  have hs : s < b.length := by
    by_cases hs : s < b.length
    · exact hs
    · rw [mvs_out (by omega)] at hp
      cases hp
  have h := (fb.ok hs).rise
  generalize mvs b s = l at *
  induction l with
  | nil => cases hp
  | cons x r ih =>
    rw [List.map_cons, List.pairwise_cons] at h
    rcases List.mem_cons.mp hp with rfl | hp' <;> rcases List.mem_cons.mp hq with rfl | hq'
    · rfl
    · have := h.1 q.1 (List.mem_map.mpr ⟨q, hq', rfl⟩)
      omega
    · have := h.1 p.1 (List.mem_map.mpr ⟨p, hp', rfl⟩)
      omega
    · exact ih hp' hq' h.2
theorem next_mem {b : Book} (fb : FormB b) {s : Nat} {p : Nat × Nat} (hp : p ∈ mvs b s) : nextM b s p.1 = some p.2 := by
  unfold nextM
  cases e : (mvs b s).find? fun q => decide (q.1 = p.1) with
  | none =>
    have := List.find?_eq_none.mp e p hp
    simp at this
  | some q =>
    have h1 := List.mem_of_find?_eq_some e
    have h2 := List.find?_some e
    have := msg_inj fb hp h1 (of_decide_eq_true h2).symm
    rw [this]
    rfl
theorem at_snoc {b : Book} : ∀ (r : List Nat) (s h m : Nat), atM b s r = some h → atM b s (r ++ [m]) = nextM b h m
  | [], s, h, m, e => by
    cases e
    show (match nextM b s m with | some t => atM b t [] | none => none) = _
    cases nextM b s m <;> rfl
  | x :: r, s, h, m, e => by
    show (match nextM b s x with | some t => atM b t (r ++ [m]) | none => none) = _
    have e : (match nextM b s x with | some t => atM b t r | none => none) = some h := e
    cases hn : nextM b s x with
    | none => rw [hn] at e; cases e
    | some t =>
      rw [hn] at e
      exact at_snoc r t h m e
theorem mem_lv {b : Book} {s n : Nat} {x : List Nat × Nat} : x ∈ lvM b s (n + 1) ↔ ∃ q ∈ lvM b s n, ∃ p ∈ mvs b q.2, x = (q.1 ++ [p.1], p.2) := by
  show x ∈ (((lvM b s n).map fun q => (mvs b q.2).map fun p => (q.1 ++ [p.1], p.2)).flatten) ↔ _
  rw [List.mem_flatten]
  constructor
  · rintro ⟨l, hl, hx⟩
    obtain ⟨q, hq, rfl⟩ := List.mem_map.mp hl
    obtain ⟨p, hp, rfl⟩ := List.mem_map.mp hx
    exact ⟨q, hq, p, hp, rfl⟩
  · rintro ⟨q, hq, p, hp, rfl⟩
    exact ⟨_, List.mem_map.mpr ⟨q, hq, rfl⟩, List.mem_map.mpr ⟨p, hp, rfl⟩⟩
theorem lv_lt {b : Book} (fb : FormB b) {s : Nat} (hs : s < b.length) : ∀ n, ∀ q ∈ lvM b s n, q.2 < b.length
  | 0, q, hq => by rw [List.mem_singleton.mp hq]; exact hs
  | n + 1, q, hq => by
    obtain ⟨x, _, p, hp, rfl⟩ := mem_lv.mp hq
    exact fb.to hp
theorem lv_at {b : Book} (fb : FormB b) {s : Nat} : ∀ n, ∀ q ∈ lvM b s n, atM b s q.1 = some q.2
  | 0, q, hq => by rw [List.mem_singleton.mp hq]; rfl
  | n + 1, q, hq => by
    obtain ⟨x, hx, p, hp, rfl⟩ := mem_lv.mp hq
    rw [at_snoc _ _ _ _ (lv_at fb n x hx)]
    exact next_mem fb hp
theorem lv_row {b : Book} (fb : FormB b) {s : Nat} : ∀ n, ∀ q ∈ lvM b s n, (∀ m ∈ q.1, m ≤ 99) ∧ q.1.length = n
  | 0, q, hq => by rw [List.mem_singleton.mp hq]; exact ⟨fun m hm => (nomatch hm), rfl⟩
  | n + 1, q, hq => by
    obtain ⟨x, hx, p, hp, rfl⟩ := mem_lv.mp hq
    obtain ⟨h1, h2⟩ := lv_row fb n x hx
    have hs : x.2 < b.length := by
      by_cases hs : x.2 < b.length
      · exact hs
      · rw [mvs_out (by omega)] at hp
        cases hp
    refine ⟨fun m hm => ?_, by simp [h2]⟩
    rcases List.mem_append.mp hm with hm | hm
    · exact h1 m hm
    · rw [List.mem_singleton.mp hm]
      exact (fb.ok hs).msg p hp
theorem lv_ex {b : Book} (fb : FormB b) {s : Nat} : ∀ n k, k ∈ exL b s n ↔ ∃ q ∈ lvM b s n, q.2 = k
  | 0, k => by
    show k ∈ [s] ↔ ∃ q ∈ [(([] : List Nat), s)], q.2 = k
    simp [eq_comm]
  | n + 1, k => by
    show k ∈ nextL b (exL b s n) ↔ _
    rw [mem_next fb]
    constructor
    · rintro ⟨j, hj, p, hp, e⟩
      obtain ⟨q, hq, rfl⟩ := (lv_ex fb n j).mp hj
      exact ⟨_, mem_lv.mpr ⟨q, hq, p, hp, rfl⟩, e⟩
    · rintro ⟨x, hx, e⟩
      obtain ⟨q, hq, p, hp, rfl⟩ := mem_lv.mp hx
      exact ⟨q.2, (lv_ex fb n _).mpr ⟨q, hq, rfl⟩, p, hp, e⟩
theorem lv_len {b : Book} (fb : FormB b) {s : Nat} : ∀ n, (lvM b s n).length ≤ 5 ^ n
  | 0 => by simp [lvM]
  | n + 1 => by
    have ih := lv_len (b := b) fb (s := s) n
    show (((lvM b s n).map fun q => (mvs b q.2).map fun p => (q.1 ++ [p.1], p.2)).flatten).length ≤ _
    have : ∀ l : List (List Nat × Nat), ((l.map fun q => (mvs b q.2).map fun p => (q.1 ++ [p.1], p.2)).flatten).length ≤ 5 * l.length := by
      intro l
      induction l with
      | nil => simp
      | cons x r ih =>
        rw [List.map_cons, List.flatten_cons, List.length_append, List.length_map, List.length_cons]
        have : (mvs b x.2).length ≤ 5 := by
          by_cases hs : x.2 < b.length
          · exact (fb.ok hs).few
          · rw [mvs_out (by omega)]
            simp
        omega
    have := this (lvM b s n)
    rw [Nat.pow_succ]
    omega
theorem mem_rows {b : Book} {s : Nat} : ∀ n r, r ∈ rowsM b s n ↔ ∃ j, j ≤ n ∧ ∃ q ∈ lvM b s j, q.1 = r
  | 0, r => by
    show r ∈ [[]] ↔ _
    constructor
    · intro h
      rw [List.mem_singleton.mp h]
      exact ⟨0, Nat.le_refl _, _, List.mem_singleton.mpr rfl, rfl⟩
    · rintro ⟨j, hj, q, hq, e⟩
      have : j = 0 := by omega
      subst this
      rw [List.mem_singleton.mp hq] at e
      rw [← e]
      exact List.mem_singleton.mpr rfl
  | n + 1, r => by
    show r ∈ rowsM b s n ++ (lvM b s (n + 1)).map (·.1) ↔ _
    rw [List.mem_append, mem_rows n r, List.mem_map]
    constructor
    · rintro (⟨j, hj, h⟩ | ⟨q, hq, e⟩)
      · exact ⟨j, by omega, h⟩
      · exact ⟨n + 1, Nat.le_refl _, q, hq, e⟩
    · rintro ⟨j, hj, q, hq, e⟩
      by_cases h : j ≤ n
      · exact .inl ⟨j, h, q, hq, e⟩
      · have : j = n + 1 := by omega
        subst this
        exact .inr ⟨q, hq, e⟩
theorem rows_succ {b : Book} {s : Nat} (n : Nat) : (rowsM b s (n + 1)).length = (rowsM b s n).length + (lvM b s (n + 1)).length := by
  show (rowsM b s n ++ (lvM b s (n + 1)).map (·.1)).length = _
  rw [List.length_append, List.length_map]
theorem rows_len {b : Book} (fb : FormB b) {s n : Nat} (hn : n ≤ 3) : (rowsM b s n).length ≤ 156 ∧ (lvM b s n).length ≤ 125 := by
  have l0 := lv_len fb (s := s) 0
  have l1 := lv_len fb (s := s) 1
  have l2 := lv_len fb (s := s) 2
  have l3 := lv_len fb (s := s) 3
  have r0 : (rowsM b s 0).length = 1 := rfl
  have r1 : (rowsM b s 1).length = (rowsM b s 0).length + (lvM b s 1).length := rows_succ 0
  have r2 : (rowsM b s 2).length = (rowsM b s 1).length + (lvM b s 2).length := rows_succ 1
  have r3 : (rowsM b s 3).length = (rowsM b s 2).length + (lvM b s 3).length := rows_succ 2
  have : n = 0 ∨ n = 1 ∨ n = 2 ∨ n = 3 := by omega
  rcases this with rfl | rfl | rfl | rfl <;> exact ⟨by omega, by omega⟩
/-- the states to which the rows come -/
theorem rows_ends {b : Book} (fb : FormB b) {t n : Nat} (ht : t < b.length) (hn : n < 8) {k : Nat} : (∃ r ∈ rowsM b t n, atM b t r = some k) ↔ k ∈ ledL b t (n + 1) := by
  rw [led_ends fb ht, mem_ends fb ht, Nat.min_eq_left (by omega)]
  constructor
  · rintro ⟨r, hr, e⟩
    obtain ⟨j, hj, q, hq, rfl⟩ := (mem_rows n r).mp hr
    rw [lv_at fb j q hq] at e
    exact ⟨j, by omega, (lv_ex fb j k).mpr ⟨q, hq, Option.some.inj e⟩⟩
  · rintro ⟨j, hj, h⟩
    obtain ⟨q, hq, rfl⟩ := (lv_ex fb j k).mp h
    exact ⟨q.1, (mem_rows n q.1).mpr ⟨j, by omega, q, hq, rfl⟩, lv_at fb j q hq⟩
theorem ledL_srt (b : Book) (t m : Nat) : (ledL b t m).Pairwise (· < ·) := by
  unfold ledL
  split
  · exact .nil
  · exact wiL_srt _ _ _
theorem led_eq_ends {b : Book} (fb : FormB b) {t m : Nat} (ht : t < b.length) : ledL b t m = endsL b t (min m 8) := srt_eq (ledL_srt b t m) (endsL_srt b t _) fun k => led_ends fb ht
theorem led_eq_full {b : Book} (fb : FormB b) {t m : Nat} (ht : t < b.length) (h : b.length ≤ m) : ledL b t m = endsL b t (min 8 8) := by
  rw [led_full fb ht h, ← led_full fb ht fb.eight]
  exact led_eq_ends fb ht
theorem led_len {b : Book} {t m : Nat} (ht : t < b.length) : (ledL b t m).length ≤ b.length := nodup_le (srt_nodup (ledL_srt b t m)) (ledL_lt ht)
end Nv
set_option Elab.async false
set_option linter.all false
set_option maxRecDepth 100000
namespace Nv
open PySem PySem.Spec PyProof.Rows L2
theorem op_catAK (K : PySem.W.Frag) {X : Cx} (h : X.K = K := by rfl) : OpR X (binaryOp .Add) (rCatA K) := by subst h; exact op_catA
/-! ### sorted(set), of few unlike numbers -/
theorem SetR_few {w : World} {h : Heap} {a : Addr} {S : Int → Bool} {n : Nat} (R : SetR w h a S n) {L : List Int} (hL : ∀ k, S k = true → k ∈ L) : n ≤ L.length := by
  obtain ⟨o, es, ep, t, ho, hx, hd, g, nd, hm, hb, hf, hn, _⟩ := R
  have := List.Nodup.length_le_of_subset nd (l₂ := L) fun k hk => hL k ((hm k).mpr hk)
  rw [List.length_map, Array.length_toList] at this
  omega
def rSortedSetL (w : World) : List V → Hp → VK → Prop := fun vs H Q => ∃ (a : Addr) (S : Int → Bool) (n : Nat) (L : List Int), vs = [V.ref a] ∧ H a = some (SetO w a S n) ∧ (∀ k, S k = true → k ∈ L) ∧ L.length < 64 ∧
  ∀ (ns : List Int) (p : Addr), ns.Pairwise (· < ·) → (∀ k : Int, k ∈ ns ↔ S k = true) → H p = none → Q (.ref p) (upd H p (.lst (ns.map V.int)))
theorem cr_sortedSetL {X : Cx} (hc : X.calm = true) : CallR X (.builtin "sorted") (rSortedSetL X.w) := by
  intro pins s σ H vs us Q I r h
  obtain ⟨a, S, n, L, e, ha, hS, h64, q⟩ := h
  have R := setO_get I ha
  have := SetR_few R hS
  exact cr_sortedSet hc pins s σ H vs us Q I r ⟨a, S, n, e, ha, by omega, fun ns p h1 h2 _ h4 => q ns p h1 h2 h4⟩
/-! ### rows and pairs of a row and a state -/
def RwV (K : PySem.W.Frag) (H : Hp) (v : V) (r : List Nat) : Prop := ∃ a : Addr, v = .ref a ∧ SqT K H a (r.map nV)
def PrV (K : PySem.W.Frag) (H : Hp) (v : V) (q : List Nat × Nat) : Prop := ∃ (a : Addr) (u : V), v = .ref a ∧ SqT K H a [u, .int q.2] ∧ RwV K H u q.1
theorem RwV.ext {K : PySem.W.Frag} {L : List Addr} {H H' : Hp} {v : V} {r : List Nat} (h : RwV K H v r) (e : Ext L H H') (l : Lsts L H) : RwV K H' v r := by
  obtain ⟨a, rfl, h1⟩ := h
  exact ⟨a, rfl, e.tup l h1⟩
theorem PrV.ext {K : PySem.W.Frag} {L : List Addr} {H H' : Hp} {v : V} {q : List Nat × Nat} (h : PrV K H v q) (e : Ext L H H') (l : Lsts L H) : PrV K H' v q := by
  obtain ⟨a, u, rfl, h1, h2⟩ := h
  exact ⟨a, u, rfl, e.tup l h1, h2.ext e l⟩
theorem RwV.ext0 {K : PySem.W.Frag} {H H' : Hp} {v : V} {r : List Nat} (h : RwV K H v r) (e : Ext [] H H') : RwV K H' v r := h.ext e Lsts.nil
theorem PrV.ext0 {K : PySem.W.Frag} {H H' : Hp} {v : V} {q : List Nat × Nat} (h : PrV K H v q) (e : Ext [] H H') : PrV K H' v q := h.ext e Lsts.nil
theorem RwV.put {K : PySem.W.Frag} {H : Hp} {v : V} {r : List Nat} {p : Addr} {xs ys : List V} (h : RwV K H v r) (hp : H p = some (.lst xs)) : RwV K (upd H p (.lst ys)) v r := h.ext (L := [p]) (.wr (by simp)) (one_lst hp)
theorem PrV.put {K : PySem.W.Frag} {H : Hp} {v : V} {q : List Nat × Nat} {p : Addr} {xs ys : List V} (h : PrV K H v q) (hp : H p = some (.lst xs)) : PrV K (upd H p (.lst ys)) v q := h.ext (L := [p]) (.wr (by simp)) (one_lst hp)
theorem Paired.app {α β : Type} {F : α → β → Prop} : ∀ {l₁ : List α} {m₁ : List β} {l₂ : List α} {m₂ : List β}, Paired F l₁ m₁ → Paired F l₂ m₂ → Paired F (l₁ ++ l₂) (m₁ ++ m₂)
  | _, _, _, _, .nil, h => h
  | _, _, _, _, .cons r t, h => .cons r (Paired.app t h)
theorem next_head {b : Book} (fb : FormB b) {s : Nat} {p : Nat × Nat} (hp : p ∈ mvs b s) : ∃ rest, ((mvs b s).filter fun q => decide (q.1 = p.1)).map (·.2) = p.2 :: rest := by
  have h := next_mem fb hp
  unfold nextM at h
  rw [← List.head?_filter, ← List.head?_map] at h
  cases e : ((mvs b s).filter fun q => decide (q.1 = p.1)).map (·.2) with
  | nil => rw [e] at h; cases h
  | cons x r =>
    rw [e] at h
    have h := Option.some.inj h
    rw [h]
    exact ⟨r, rfl⟩
theorem next_some {b : Book} {s m t : Nat} (h : nextM b s m = some t) : ∃ p ∈ mvs b s, p.1 = m ∧ p.2 = t := by
  unfold nextM at h
  cases e : (mvs b s).find? fun p => decide (p.1 = m) with
  | none => rw [e] at h; cases h
  | some p =>
    rw [e] at h
    exact ⟨p, List.mem_of_find?_eq_some e, of_decide_eq_true (by simpa using List.find?_some e), Option.some.inj h⟩
theorem drop_at {α : Type} {l : List α} {i : Nat} {x : α} (h : l[i]? = some x) : l.drop i = x :: l.drop (i + 1) := by
  obtain ⟨hi, e⟩ := List.getElem?_eq_some_iff.mp h
  rw [List.drop_eq_getElem_cons hi, e]
end Nv
set_option linter.all false
namespace Nv
open PySem PySem.Spec PyProof.Rows L2
/-! ### what may be shown -/
theorem int_short {i : Int} (h1 : -1 ≤ i) (h2 : i < 8) : PyData.leavesShort 8 (.int i) = true := by
  have : i = -1 ∨ i = 0 ∨ i = 1 ∨ i = 2 ∨ i = 3 ∨ i = 4 ∨ i = 5 ∨ i = 6 ∨ i = 7 := by omega
  rcases this with rfl | rfl | rfl | rfl | rfl | rfl | rfl | rfl | rfl <;> decide +kernel
structure ShowOk (d : PyData) : Prop where
  a : d.showable = true
  b : d.hasDict = false
  c : d.depth ≤ 60
  d : d.shown.length ≤ sizeLine
end Nv
set_option Elab.async false
set_option linter.all false
set_option maxRecDepth 100000
namespace Nv
open PySem PySem.Spec PyProof.Rows L2
/-! ### repr of any data -/
/-- repr(x) of data; nothing is being shown around -/
def rReprA (K : PySem.W.Frag) : List V → Hp → VK → Prop := fun xs H Q => ∃ (v : V) (d : PyData), xs = [v] ∧ Dp K H v d ∧ ShowOk d ∧ Q (.str d.shown) H
theorem call_reprA {X : Cx} (hu : X.A.units + 64 < cLine) (hg : X.A.guards = some []) : CallR X (.builtin "repr") (rReprA X.K) := by
  intro pins s σ H xs us Q I r h
  obtain ⟨v, d, rfl, hd, sh, q⟩ := h
  cases hd with
  | non =>
    obtain ⟨u, rfl, rfl⟩ := vals1 r
    exact PySem.P.repr_of_none ⟨.str _, H, I.tok _, ⟨_, rfl⟩, q⟩
  | bl b =>
    obtain ⟨u, rfl, rfl⟩ := vals1 r
    exact PySem.P.repr_of_bool ⟨.str _, H, I.tok _, ⟨_, rfl⟩, q⟩
  | int i =>
    exact SkE.call_repr_int pins s σ H _ us Q I r ⟨i, rfl, of_decide_eq_true sh.a, q⟩
  | str x =>
    obtain ⟨u, rfl, rx⟩ := vals1 r
    obtain ⟨t, rfl⟩ := rx
    exact PySem.P.repr_of_str ⟨.str _, H, I.tok _, ⟨_, rfl⟩, q⟩ sh.d
  | lst h1 h2 => exact call_reprD hu hg pins s σ H _ us Q I r ⟨_, _, rfl, .lst h1 h2, sh.a, sh.b, sh.c, sh.d, q⟩
  | tup h1 h2 => exact call_reprD hu hg pins s σ H _ us Q I r ⟨_, _, rfl, .tup h1 h2, sh.a, sh.b, sh.c, sh.d, q⟩
theorem call_reprAK (K : PySem.W.Frag) {X : Cx} (hu : X.A.units + 64 < cLine) (hg : X.A.guards = some []) (eK : X.K = K := by rfl) : CallR X (.builtin "repr") (rReprA K) := by
  subst eK
  exact call_reprA hu hg
/-- what is shown of some data -/
theorem show_mk {d : PyData} {n : Nat} (a : d.showable = true) (b : d.hasDict = false) (c : d.depth ≤ 60) (e : PyData.leavesShort 8 d = true) (k : PyData.bulk d ≤ n) (hn : n ≤ 60) : ShowOk d where
  a := a
  b := b
  c := c
  d := by
    have k2 := PyData.shown_le_bulk 8 (Nat.le_refl _) d e
    refine Nat.le_of_lt (small1000 (Nat.le_trans k2 ?_))
    omega
theorem nat_short {n : Nat} (h : n < 8) : PyData.leavesShort 8 (.int (n : Int)) = true := int_short (by omega) (by omega)
abbrev iN (l : List Nat) : List Int := l.map fun n : Nat => (n : Int)
theorem map_nV_iN (l : List Nat) : l.map nV = (iN l).map V.int := by rw [List.map_map]; rfl
theorem str_ne (x : Str) : (!decide (V.str x = V.str x)) = false := by rw [decide_eq_true rfl]; rfl
theorem str_eq (x : Str) : decide (V.str x = V.str x) = true := decide_eq_true rfl
theorem str_small {e : Int} (h : -1 ≤ e ∧ e ≤ 8) : (Str.ofString (toString e)).length ≤ 8 := by
  have : e = -1 ∨ e = 0 ∨ e = 1 ∨ e = 2 ∨ e = 3 ∨ e = 4 ∨ e = 5 ∨ e = 6 ∨ e = 7 ∨ e = 8 := by omega
  rcases this with rfl | rfl | rfl | rfl | rfl | rfl | rfl | rfl | rfl | rfl <;> decide +kernel
theorem show_int {e : Int} (h : -1 ≤ e ∧ e ≤ 8) : ShowOk (.int e) ∧ (PyData.int e).shown.length ≤ 100 := by
  have sl := str_small h
  have hlog : e.natAbs.log2 < 1920 := Nat.lt_of_le_of_lt (Nat.log2_le_self _) (by omega)
  have e1 : (PyData.int e).shown.length = (Str.ofString (toString e)).length := rfl
  exact ⟨⟨decide_eq_true hlog, rfl, (by show (0 : Nat) ≤ 60; decide), by rw [e1]; exact Nat.le_of_lt (small1000 (by omega))⟩, by omega⟩
end Nv
set_option linter.all false
namespace Nv
open PySem PySem.Spec PyProof.Rows L2
/-! ### what may be shown, part by part -/
structure Sh (d : PyData) (k n : Nat) : Prop where
  a : d.showable = true
  b : d.hasDict = false
  c : d.depth ≤ k
  e : PyData.leavesShort 8 d = true
  f : PyData.bulk d ≤ n
structure ShL (ds : List PyData) (k n : Nat) : Prop where
  a : PyData.showableAll ds = true
  b : PyData.hasDictAll ds = false
  c : PyData.depthAll ds ≤ k
  e : PyData.leavesShortAll 8 ds = true
  f : PyData.bulkAll ds ≤ n
theorem ShL.nil {k n : Nat} : ShL [] k n := ⟨rfl, rfl, Nat.zero_le _, rfl, Nat.zero_le _⟩
theorem ShL.cons {d : PyData} {ds : List PyData} {k n m : Nat} (h : Sh d k n) (t : ShL ds k m) : ShL (d :: ds) k (n + 1 + m) where
  a := by simp only [PyData.showableAll, h.a, t.a, Bool.and_self]
  b := by simp only [PyData.hasDictAll, h.b, t.b, Bool.or_self]
  c := by
    have := h.c
    have := t.c
    simp only [PyData.depthAll]
    omega
  e := by simp only [PyData.leavesShortAll, h.e, t.e, Bool.and_self]
  f := by
    have := h.f
    have := t.f
    simp only [PyData.bulkAll]
    omega
theorem Sh.mono {d : PyData} {k n k' n' : Nat} (h : Sh d k n) (hk : k ≤ k') (hn : n ≤ n') : Sh d k' n' := ⟨h.a, h.b, Nat.le_trans h.c hk, h.e, Nat.le_trans h.f hn⟩
theorem ShL.mono {d : List PyData} {k n k' n' : Nat} (h : ShL d k n) (hk : k ≤ k') (hn : n ≤ n') : ShL d k' n' := ⟨h.a, h.b, Nat.le_trans h.c hk, h.e, Nat.le_trans h.f hn⟩
theorem Sh.tup {ds : List PyData} {k n : Nat} (h : ShL ds k n) : Sh (.tuple ds) (k + 1) n where
  a := by simp only [PyData.showable, h.a]
  b := by simp only [PyData.hasDict, h.b]
  c := by
    have := h.c
    simp only [PyData.depth]
    omega
  e := by simp only [PyData.leavesShort, h.e]
  f := by simp only [PyData.bulk]; exact h.f
theorem Sh.lst {ds : List PyData} {k n : Nat} (h : ShL ds k n) : Sh (.list ds) (k + 1) n where
  a := by simp only [PyData.showable, h.a]
  b := by simp only [PyData.hasDict, h.b]
  c := by
    have := h.c
    simp only [PyData.depth]
    omega
  e := by simp only [PyData.leavesShort, h.e]
  f := by simp only [PyData.bulk]; exact h.f
theorem nat_len2 : ∀ n : Fin 100, PyData.leavesShort 8 (.int ((n.val : Nat) : Int)) = true := by decide +kernel
theorem Sh.nat {n : Nat} (h : n ≤ 99) {k m : Nat} : Sh (.int (n : Int)) k m where
  a := by
    show decide ((n : Int).natAbs.log2 < 1920) = true
    exact decide_eq_true (Nat.lt_of_le_of_lt (Nat.log2_le_self _) (by omega))
  b := rfl
  c := Nat.zero_le _
  e := nat_len2 ⟨n, by omega⟩
  f := Nat.zero_le _
theorem Sh.neg1 {k m : Nat} : Sh (.int (-1)) k m := ⟨by decide +kernel, rfl, Nat.zero_le _, by decide +kernel, Nat.zero_le _⟩
theorem Sh.bl {b : Bool} {k m : Nat} : Sh (.bool b) k m := ⟨by cases b <;> rfl, rfl, Nat.zero_le _, by cases b <;> rfl, Nat.zero_le _⟩
theorem Sh.non {k m : Nat} : Sh .none k m := ⟨rfl, rfl, Nat.zero_le _, rfl, Nat.zero_le _⟩
theorem Sh.str {x : Str} (a : (PyData.str x).showable = true) (e : PyData.leavesShort 8 (.str x) = true) {k n : Nat} (f : x.cps.size ≤ n) : Sh (.str x) k n := ⟨a, rfl, Nat.zero_le _, e, f⟩
theorem ShL.map {α : Type} {f : α → PyData} {k n : Nat} : ∀ {l : List α}, (∀ x ∈ l, Sh (f x) k n) → ShL (l.map f) k (l.length * (n + 1))
  | [], _ => .nil
  | x :: r, h => by
    have h1 := ShL.cons (h x (List.mem_cons_self ..)) (ShL.map fun y hy => h y (List.mem_cons_of_mem _ hy))
    refine h1.mono (Nat.le_refl _) ?_
    rw [List.length_cons, Nat.add_mul]
    omega
theorem Sh.ok {d : PyData} {k n : Nat} (h : Sh d k n) (hk : k ≤ 60) (hn : n ≤ 1000000) : ShowOk d where
  a := h.a
  b := h.b
  c := Nat.le_trans h.c hk
  d := PyData.shown_fits_bulk (Nat.le_refl _) (by decide) h.e (Nat.le_trans h.f (Nat.le_trans hn (by decide)))
end Nv
set_option Elab.async false
set_option linter.all false
set_option maxRecDepth 100000
/-! tuples written out, known to have no dict of their own; tuples many times over -/
namespace Nv
open PySem PySem.Spec PyProof.Rows L2
def tTupZ (t : TA) : TE := fun σ H Q => t σ H fun xs H1 => xs.length ≤ sizeLine ∧ ∀ (p : Addr) (H' : Hp), H1 p = none → (∃ o : Obj, o.dict = none ∧ H' = upd H1 p (.frz o (.tup xs))) → Q (.ref p) H'
theorem pe_tupZ {X : Cx} {es : List Expr} {t : TA} {pos : Pos} {x1 : Nat} (h : PA X es t) : PE X (.Tuple es x1 pos) (tTupZ t) :=
  ⟨fun pins s σ H Q I hq => wpAny_Tuple_spliced (thn (h.run pos pins s σ H _ I hq) fun us s1 ⟨xs, H1, J, rel, small, go⟩ => ⟨by rw [← rel.length]; exact small, by
    have J2 : Inv X pins σ (upd H1 s1.heap.objs.size (.frz { cls := .type "tuple", data := .seq us.toArray } (.tup xs))) { s1 with heap := s1.heap.push { cls := .type "tuple", data := .seq us.toArray } } :=
      J.laid (t' := s1.toks) (fun _ _ e => Heap.get?_push_of_some _ e) (Nat.le_refl _) (show ObjOk X.prog X.w _ _ _ (.frz _ (.tup xs)) from ⟨Heap.get?_push_size _ rfl, small, us, rel, IsTup.new _ _⟩)
    exact ⟨.ref s1.heap.objs.size, _, J2, rfl, go _ _ (J.hok.fresh (Nat.le_refl _)) ⟨_, rfl, rfl⟩⟩⟩)⟩
/-- t * k, up to a hundred thousand members -/
def rRepTB (K : PySem.W.Frag) : R2 := fun x y H Q => ∃ (a : Addr) (k : Nat) (xs : List V), x = .ref a ∧ y = .int (k : Int) ∧ SqT K H a xs ∧ xs ≠ [] ∧ 2 ≤ k ∧ k * xs.length ≤ 100000 ∧ ∀ p, H p = none → Q (.ref p) (upd H p (.tup (List.replicate k xs).flatten))
theorem op_repTB {X : Cx} : OpR X (binaryOp .Mult) (rRepTB X.K) := by
  intro pins s σ H x y v u Q I rx ry h
  obtain ⟨a, k, xs, rfl, rfl, sq, some_, two, few, go⟩ := h
  cases rx
  obtain ⟨tok, rfl⟩ := ry
  obtain ⟨vals, rel, ⟨⟨cl, dic, dat, slo⟩, here, ecl, cap, edat⟩, _⟩ := I.tuple sq
  simp only at ecl edat
  subst ecl edat
  have el : vals.length = xs.length := rel.length.symm
  have pos : 0 < vals.length := by
    rw [el]
    exact List.length_pos_iff.mpr some_
  have few' : k * vals.length ≤ 100000 := by rw [el]; exact few
  have k5 : k ≤ 100000 := Nat.le_trans (Nat.le_mul_of_pos_right k pos) few'
  have notE : vals.toArray.isEmpty = false := by
    cases vals with
    | nil => cases pos
    | cons _ _ => rfl
  have prod : ((vals.toArray.size : Nat) : Int) * (k : Int) ≤ 100000 := by
    rw [List.size_toArray, Int.mul_comm]
    have z : ((k * vals.length : Nat) : Int) ≤ ((100000 : Nat) : Int) := Int.ofNat_le.mpr few'
    rw [Int.natCast_mul] at z
    exact z
  have fits : (List.replicate k vals).flatten.length ≤ sizeLine := by
    rw [PyProof.Rows.lm_len_rep_flat]
    exact Nat.le_trans few' (by decide)
  have b0 : (decide ((k : Int) < -(2 ^ 63)) || decide ((k : Int) ≥ 2 ^ 63)) = false := by
    rw [decide_eq_false (by omega), decide_eq_false (by omega)]
    rfl
  have b1 : (vals.toArray.isEmpty || (k : Int) == 1) = false := by
    rw [notE, Bool.false_or]
    exact beq_eq_false_iff_ne.mpr (by omega)
  have b2 : (decide ((k : Int) ≤ 0) || vals.toArray.isEmpty) = false := by
    rw [notE, Bool.or_false]
    exact decide_eq_false (by omega)
  have b4 : Builtin.Tuple.tupleTooMany (((vals.toArray.size : Nat) : Int) * (k : Int)) = false := by
    unfold Builtin.Tuple.tupleTooMany
    rw [sizeLine_eq]
    exact decide_eq_false (by omega)
  refine wpAny_binaryOp_repeat_ref (T := "tuple") (U := "int") (by decide) ⟨_, here, rfl⟩ (fun s' => typeIs_int s' (k : Int) tok) noFill_tuple_mul F.fills_int_mul F.slot_int_rmul repeat_tuple F.slot_int_index.lookup
    (call_meets F.slot_int_rmul (typeIs_int s (k : Int) tok) F.entry_int_rmul (F.args_int_rmul_2 _ _) (int_rmul_tuple (k : Int) tok a vals.toArray cap dic slo)
      ⟨here, rfl, ⟨_, here, rfl⟩, call_meets F.slot_tuple_mul ⟨_, here, rfl⟩ F.entry_tuple_mul (F.args_tuple_mul_2 _ _) (tuple_mulW a vals.toArray cap dic slo (k : Int) tok b0 b1 b2 (by omega) b4 (by rw [Int.toNat_natCast, size_rep, List.size_toArray]; exact fits)) ⟨here, ?_⟩⟩)
  rw [Int.toNat_natCast, size_rep]
  refine ⟨.ref s.heap.objs.size, _, I.laid (t' := s.toks) (o := .tup (List.replicate k xs).flatten) (fun _ _ e => Heap.get?_push_of_some _ e) (Nat.le_refl _) ?_, rfl, go _ (I.hok.fresh (Nat.le_refl _))⟩
  exact ⟨by rw [PyProof.Rows.lm_len_rep_flat]; exact Nat.le_trans few (by decide), _, rel.rep k, IsTup.new _ _⟩
theorem op_repTBK (K : PySem.W.Frag) {X : Cx} (h : X.K = K := by rfl) : OpR X (binaryOp .Mult) (rRepTB K) := by
  subst h
  exact op_repTB
end Nv
set_option Elab.async false
set_option linter.all false
set_option maxRecDepth 100000
namespace Nv
open PySem PySem.Spec PyProof.Rows L2
section
variable {P : Program} {w : World} {K : PySem.W.Frag} {mg : Str → Option Value} {base : Heap}
/-! ### the checks, of any data -/
def intLike : PyData → Bool
  | .int _ => true
  | .bool _ => true
  | _ => false
def isBoolD : PyData → Bool
  | .bool _ => true
  | _ => false
def isTupD : PyData → Bool
  | .tuple _ => true
  | _ => false
theorem kit_int (d : PyData) : kitB (tyD d) "int" = some (intLike d) := by
  cases d with
  | none => exact (by decide +kernel : kitB "NoneType" "int" = some false)
  | bool b => exact (by decide +kernel : kitB "bool" "int" = some true)
  | int i => exact (by decide +kernel : kitB "int" "int" = some true)
  | str x => exact (by decide +kernel : kitB "str" "int" = some false)
  | list l => exact (by decide +kernel : kitB "list" "int" = some false)
  | tuple l => exact (by decide +kernel : kitB "tuple" "int" = some false)
  | dict l => exact (by decide +kernel : kitB "dict" "int" = some false)
theorem kit_bool (d : PyData) : kitB (tyD d) "bool" = some (isBoolD d) := by
  cases d with
  | none => exact (by decide +kernel : kitB "NoneType" "bool" = some false)
  | bool b => exact (by decide +kernel : kitB "bool" "bool" = some true)
  | int i => exact (by decide +kernel : kitB "int" "bool" = some false)
  | str x => exact (by decide +kernel : kitB "str" "bool" = some false)
  | list l => exact (by decide +kernel : kitB "list" "bool" = some false)
  | tuple l => exact (by decide +kernel : kitB "tuple" "bool" = some false)
  | dict l => exact (by decide +kernel : kitB "dict" "bool" = some false)
theorem kit_tup (d : PyData) : kitB (tyD d) "tuple" = some (isTupD d) := by
  cases d with
  | none => exact (by decide +kernel : kitB "NoneType" "tuple" = some false)
  | bool b => exact (by decide +kernel : kitB "bool" "tuple" = some false)
  | int i => exact (by decide +kernel : kitB "int" "tuple" = some false)
  | str x => exact (by decide +kernel : kitB "str" "tuple" = some false)
  | list l => exact (by decide +kernel : kitB "list" "tuple" = some false)
  | tuple l => exact (by decide +kernel : kitB "tuple" "tuple" = some true)
  | dict l => exact (by decide +kernel : kitB "dict" "tuple" = some false)

def sp_wholeD (K : PySem.W.Frag) : Sp := fun vs H Q _ => ∃ (v : V) (d : PyData), vs = [v] ∧ Dp K H v d ∧ Q (.bl (wholeD d)) H
theorem okD_whole (T : Tx K mg) : FnOk P w K mg base CX0 1 T.whole.f T.whole.fd ["thing"] (sp_wholeD K) := by
  refine T.whole.F.ok sc_whole (fun vs H Q E h => ?_) (fun cdv A outer s H vs Q E hr h => ?_)
  · obtain ⟨v, d, rfl, _⟩ := h; rfl
  · obtain ⟨v, d, rfl, hd, q⟩ := h
    refine ⟨_, (pss_one (ps_ret (pe_and (pe_callB call_isi (by rfl) T.n_isinstance (by decide +kernel) (pa_cons (pv 0) (pa_cons (pe_bltn (v := .ty "int") (by rfl) T.n_int (by decide +kernel) rfl) pa_nil))) (pe_one (pe_not (pe_callB call_isi (by rfl) T.n_isinstance (by decide +kernel) (pa_cons (pv 0) (pa_cons (pe_bltn (v := .ty "bool") (by rfl) T.n_bool (by decide +kernel) rfl) pa_nil)))))))), ?_⟩
    have ty := Dp.ty hd
    refine ⟨_, rfl, _, _, _, _, _, rfl, .ty _, ty, kit_ty (kit_int d), _, rfl, ?_⟩
    cases hi : intLike d with
    | false =>
      refine iteF ?_
      have : wholeD d = false := by cases d <;> first | rfl | cases hi
      rw [this] at q
      exact q
    | true =>
      refine iteT ⟨_, rfl, _, _, _, _, _, rfl, .ty _, ty, kit_ty (kit_bool d), _, rfl, ?_⟩
      have : wholeD d = !isBoolD d := by cases d <;> first | rfl | cases hi
      rw [this] at q
      exact q

def sp_whole_withinD (K : PySem.W.Frag) : Sp := fun vs H Q _ => ∃ (v : V) (d : PyData) (a b : Int), vs = [v, .int a, .int b] ∧ Dp K H v d ∧ Q (.bl (inD d a b)) H
theorem okD_whole_within (T : Tx K mg) : FnOk P w K mg base CX0 2 T.whole_within.f T.whole_within.fd ["thing", "low", "high"] (sp_whole_withinD K) := by
  refine T.whole_within.F.ok sc_whole_within (fun vs H Q E h => ?_) (fun cdv A outer s H vs Q E hr h => ?_)
  · obtain ⟨v, d, a, b, rfl, _⟩ := h; rfl
  · obtain ⟨v, d, a, b, rfl, hd, q⟩ := h
    refine ⟨_, (pss_one (ps_ret (pe_and (pe_call (okD_whole T) (hr.mono (by decide)) (by rfl) T.whole.g T.whole.F.kp T.whole.b .nil pass0 (pa_cons (pv 0) pa_nil)) (pe_one (pe_chain op_le op_le (pv 1) (pv 0) (pv 2)))))), ?_⟩
    refine ⟨_, rfl, v, d, rfl, hd, _, rfl, ?_⟩
    cases hd with
    | int i =>
      refine iteT ⟨_, rfl, _, rfl, _, _, rfl, rfl, _, rfl, ?_⟩
      have q : Q (.bl (decide (a ≤ i ∧ i ≤ b))) H := q
      by_cases h1 : a ≤ i
      · rw [decide_eq_true h1]
        refine iteT ⟨_, rfl, _, _, rfl, rfl, ?_⟩
        have e : decide (a ≤ i ∧ i ≤ b) = decide (i ≤ b) := by simp [h1]
        rw [e] at q
        exact q
      · rw [decide_eq_false h1]
        have e : decide (a ≤ i ∧ i ≤ b) = false := by simp [h1]
        rw [e] at q
        exact iteF q
    | non => exact iteF q
    | bl b => exact iteF q
    | str x => exact iteF q
    | lst h1 h2 => exact iteF q
    | tup h1 h2 => exact iteF q

def sp_tuple_withinD (K : PySem.W.Frag) : Sp := fun vs H Q _ => ∃ (v : V) (d : PyData) (a b : Int), vs = [v, .int a, .int b] ∧ Dp K H v d ∧ Q (.bl (tupD d a b)) H
theorem okD_tuple_within (T : Tx K mg) : FnOk P w K mg base CX0 1 T.tuple_within.f T.tuple_within.fd ["thing", "low", "high"] (sp_tuple_withinD K) := by
  refine T.tuple_within.F.ok sc_tuple_within (fun vs H Q E h => ?_) (fun cdv A outer s H vs Q E hr h => ?_)
  · obtain ⟨v, d, a, b, rfl, _⟩ := h; rfl
  · obtain ⟨v, d, a, b, rfl, hd, q⟩ := h
    refine ⟨_, (pss_one (ps_ret (pe_and (pe_callB call_isi (by rfl) T.n_isinstance (by decide +kernel) (pa_cons (pv 0) (pa_cons (pe_bltn (v := .ty "tuple") (by rfl) T.n_tuple (by decide +kernel) rfl) pa_nil))) (pe_one (pe_chain op_le op_le (pv 1) (pe_callB call_len_seq (by rfl) T.n_len PySem.boot_len (pa_cons (pv 0) pa_nil)) (pv 2)))))), ?_⟩
    have ty := Dp.ty hd
    refine ⟨_, rfl, _, _, _, _, _, rfl, .ty _, ty, kit_ty (kit_tup d), _, rfl, ?_⟩
    cases hd with
    | @tup t xs ds ht hds =>
      have len := dpAll_len hds
      refine iteT ⟨_, rfl, _, rfl, t, xs, rfl, .inr ht, _, _, rfl, rfl, _, rfl, ?_⟩
      have q : Q (.bl (decide (a ≤ (ds.length : Int) ∧ (ds.length : Int) ≤ b))) H := q
      rw [← len] at q
      by_cases h1 : a ≤ (xs.length : Int)
      · rw [decide_eq_true h1]
        refine iteT ⟨_, rfl, _, _, rfl, rfl, ?_⟩
        have e : decide (a ≤ (xs.length : Int) ∧ (xs.length : Int) ≤ b) = decide ((xs.length : Int) ≤ b) := by simp [h1]
        rw [e] at q
        exact q
      · rw [decide_eq_false h1]
        have e : decide (a ≤ (xs.length : Int) ∧ (xs.length : Int) ≤ b) = false := by simp [h1]
        rw [e] at q
        exact iteF q
    | non => exact iteF q
    | bl b => exact iteF q
    | str x => exact iteF q
    | int i => exact iteF q
    | lst h1 h2 => exact iteF q
end
end Nv
set_option Elab.async false
set_option linter.all false
set_option maxRecDepth 100000
namespace Nv
open PySem PySem.Spec PyProof.Rows L2
section
variable {P : Program} {w : World} {K : PySem.W.Frag} {mg : Str → Option Value} {base : Heap}
/-! ### the book's form, of any data -/
def intD : PyData → Option Int
  | .int i => some i
  | _ => none
theorem pairD_two {last n : Int} {x y : PyData} : pairD last n (.tuple [x, y]) = if inD x (last + 1) 99 = true ∧ inD y 0 (n - 1) = true then intD x else none := by
  cases x with
  | int m =>
    cases y with
    | int t =>
      simp only [pairD, inD, intD, decide_eq_true_eq]
      by_cases h : last + 1 ≤ m ∧ m ≤ 99 ∧ 0 ≤ t ∧ t ≤ n - 1
      · rw [if_pos h, if_pos ⟨⟨h.1, h.2.1⟩, h.2.2.1, h.2.2.2⟩]
      · rw [if_neg h, if_neg fun z => h ⟨z.1.1, z.1.2, z.2.1, z.2.2⟩]
    | _ => simp [pairD, inD]
  | _ => simp [pairD, inD]
theorem pairD_not {last n : Int} {d : PyData} (h : tupD d 2 2 = false) : pairD last n d = none := by
  cases d with
  | tuple ds =>
    match ds, h with
    | [], _ => rfl
    | [x], _ => cases x <;> rfl
    | [x, y], h => exact absurd h (by show ¬ decide ((2 : Int) ≤ 2 ∧ (2 : Int) ≤ 2) = false; decide)
    | x :: y :: z :: r, _ => cases x <;> cases y <;> rfl
  | _ => rfl
theorem tupD_true {d : PyData} {a b : Int} (h : tupD d a b = true) : ∃ ds, d = .tuple ds ∧ a ≤ (ds.length : Int) ∧ (ds.length : Int) ≤ b := by
  cases d with
  | tuple ds => exact ⟨ds, rfl, of_decide_eq_true h⟩
  | _ => cases h
theorem pairs_drop {last n : Int} {ds : List PyData} {k : Nat} {d : PyData} (h : ds[k]? = some d) : pairsD last n (ds.drop k) = match pairD last n d with | some m => pairsD m n (ds.drop (k + 1)) | none => false := by
  obtain ⟨hk, e⟩ := List.getElem?_eq_some_iff.mp h
  rw [List.drop_eq_getElem_cons hk, e]
  rfl

def sp_has_state_formD (K : PySem.W.Frag) : Sp := fun vs H Q _ => ∃ (v : V) (d : PyData) (n : Int), vs = [v, .int n] ∧ Dp K H v d ∧ Q (.bl (stateD n d)) H
theorem okD_has_state_form (T : Tx K mg) : FnOk P w K mg base CX0 3 T.has_state_form.f T.has_state_form.fd ["thing", "many"] (sp_has_state_formD K) := by
  refine T.has_state_form.F.ok sc_has_state_form (fun vs H Q E h => ?_) (fun cdv A outer s H vs Q E hr h => ?_)
  · obtain ⟨v, d, n, rfl, _⟩ := h; rfl
  · obtain ⟨v, d, n, rfl, hd, q⟩ := h
    refine ⟨_, (pss_cons (ps_if (pt_not (pt_val (pe_call (okD_tuple_within T) (hr.mono (by decide)) (by rfl) T.tuple_within.g T.tuple_within.F.kp T.tuple_within.b .nil pass0 (pa_cons (pv 0) (pa_cons pe_int (pa_cons (pe_glob (v := .int 5) (by rfl) T.c_MOST_MESSAGES.choose_spec ⟨_, rfl⟩) pa_nil))))))
        (pss_one (ps_ret pe_bl))
        pss_nil)
      (pss_cons (ps_set (i := 2) sc_has_state_form.nd rfl (.inl rfl) (pe_un un_neg pe_int))
      (pss_cons (ps_for PassesOwn.never rfl (pi_tup (pv 0)) (pg_name (i := 3) sc_has_state_form.nd rfl (.inl rfl))
        (pss_cons (ps_if (pt_not (pt_val (pe_call (okD_tuple_within T) (hr.mono (by decide)) (by rfl) T.tuple_within.g T.tuple_within.F.kp T.tuple_within.b .nil pass0 (pa_cons (pv 3) (pa_cons pe_int (pa_cons pe_int pa_nil))))))
          (pss_one (ps_ret pe_bl))
          pss_nil)
        (pss_cons (ps_asg (pv 3) (pg_tup rfl (pgs_cons (pg_name (i := 4) sc_has_state_form.nd rfl (.inl rfl)) (pgs_cons (pg_name (i := 5) sc_has_state_form.nd rfl (.inl rfl)) pgs_nil))))
        (pss_cons (ps_if (PW.pt (pw_or (pt_not (pt_val (pe_call (okD_whole_within T) (hr.mono (by decide)) (by rfl) T.whole_within.g T.whole_within.F.kp T.whole_within.b .nil pass0 (pa_cons (pv 4) (pa_cons (pe_op op_add (pv 2) pe_int) (pa_cons (pe_glob (v := .int 99) (by rfl) T.c_GREATEST_MESSAGE.choose_spec ⟨_, rfl⟩) pa_nil)))))) (pw_or1 (pt_not (pt_val (pe_call (okD_whole_within T) (hr.mono (by decide)) (by rfl) T.whole_within.g T.whole_within.F.kp T.whole_within.b .nil pass0 (pa_cons (pv 5) (pa_cons pe_int (pa_cons (pe_op op_sub (pv 1) pe_int) pa_nil)))))))))
          (pss_one (ps_ret pe_bl))
          pss_nil)
        (pss_one (ps_set (i := 2) sc_has_state_form.nd rfl (.inl rfl) (pv 4)))))))
      (pss_one (ps_ret pe_bl))))), ?_⟩
    refine ⟨_, rfl, v, d, 0, 5, rfl, hd, _, rfl, ?_⟩
    cases ht : tupD d 0 5 with
    | false =>
      have e : stateD n d = false := by
        cases d with
        | tuple ds =>
          have ht : decide ((0 : Int) ≤ (ds.length : Int) ∧ (ds.length : Int) ≤ 5) = false := ht
          have h5 : ¬ ds.length ≤ 5 := fun z => by
            have := of_decide_eq_false ht
            omega
          show (decide (ds.length ≤ 5) && pairsD (-1) n ds) = false
          rw [decide_eq_false h5]
          rfl
        | _ => rfl
      rw [e] at q
      exact iteT q
    | true =>
      obtain ⟨ds, rfl, _, h5⟩ := tupD_true ht
      cases hd with
      | @tup t xs _ hT hds =>
        have len := dpAll_len hds
        have e : stateD n (.tuple ds) = pairsD (-1) n ds := by
          show (decide (ds.length ≤ 5) && pairsD (-1) n ds) = _
          rw [decide_eq_true (by omega)]
          rfl
        rw [e] at q
        refine iteF ⟨1, rfl, ?_⟩
        refine ⟨_, rfl, t, rfl, ⟨_, hT⟩, for_tup (K := K) (a := t) (xs := xs) (fun k σ H' => H' = H ∧ ∃ (z : Int) (y3 y4 y5 : Option V), σ = [some (.ref t), some (.int n), some (.int z), y3, y4, y5] ∧ pairsD (-1) n ds = pairsD z n (ds.drop k))
          ⟨rfl, -1, _, _, _, rfl, rfl⟩ (fun k σ H' _ ⟨e, _⟩ => by rw [e]; exact hT) ?_ ?_⟩
        · rintro k v σ H' hv ⟨rfl, z, y3, y4, y5, rfl, hz⟩
          obtain ⟨dk, hdk, hDp⟩ := dpAll_get' hds hv
          rw [hz, pairs_drop hdk] at q
          refine ⟨_, rfl, v, dk, 2, 2, rfl, hDp, _, rfl, ?_⟩
          cases h2 : tupD dk 2 2 with
          | false =>
            rw [pairD_not h2] at q
            exact iteT q
          | true =>
            obtain ⟨l2, rfl, l2a, l2b⟩ := tupD_true h2
            match l2, l2a, l2b with
            | [x, y], _, _ =>
              cases hDp with
              | @tup c ys _ hc hys =>
                cases hys with
                | @cons vx _ _ _ hx r =>
                  cases r with
                  | @cons vy _ _ _ hy r2 =>
                    cases r2
                    refine iteF ⟨_, rfl, c, _, rfl, hc, rfl, _, _, rfl, _, _, rfl, rfl, ?_⟩
                    rw [pairD_two] at q
                    refine ⟨_, rfl, _, rfl, _, _, rfl, rfl, vx, x, _, _, rfl, hx, _, rfl, ?_⟩
                    cases hix : inD x (z + 1) 99 with
                    | false =>
                      rw [hix, if_neg (fun w => by cases w.1)] at q
                      exact iteT q
                    | true =>
                      refine iteF ⟨_, rfl, _, rfl, _, _, rfl, rfl, vy, y, _, _, rfl, hy, _, rfl, ?_⟩
                      cases hiy : inD y 0 (n - 1) with
                      | false =>
                        rw [hix, hiy, if_neg (fun w => by cases w.2)] at q
                        exact iteT q
                      | true =>
                        rw [hix, hiy, if_pos ⟨rfl, rfl⟩] at q
                        cases hx with
                        | int m => 
                          refine iteF ⟨_, rfl, rfl, m, _, _, _, rfl, ?_⟩
                          rw [hz, pairs_drop hdk, pairD_two, hix, hiy, if_pos ⟨rfl, rfl⟩]
                          rfl
                        | non => cases hix
                        | bl b => cases hix
                        | str b => cases hix
                        | lst _ _ => cases hix
                        | tup _ _ => cases hix
        · rintro σ H' ⟨rfl, z, y3, y4, y5, rfl, hz⟩
          rw [hz, len, List.drop_length] at q
          exact q
end
end Nv
set_option Elab.async false
set_option linter.all false
set_option maxRecDepth 100000
namespace Nv
open PySem PySem.Spec PyProof.Rows L2
section
variable {P : Program} {w : World} {K : PySem.W.Frag} {mg : Str → Option Value} {base : Heap}
/-! ### what is raised -/
theorem sc_init : FnScope ["self", "what"] ["self", "what"] (defScope s_init) := ⟨rfl, rfl, rfl, by decide +kernel, rfl, by decide +kernel, by decide +kernel⟩
theorem ok_init (T : Tx K mg) : FnOk P w K mg base CX0 1 T.init.f T.init.fd ["self", "what"] (sp_init K) := by
  refine T.init.F.ok sc_init (fun vs H Q E h => ?_) (fun cdv A outer s H vs Q E hr h => ?_)
  · obtain ⟨a, C, y, nm, rfl, _⟩ := h; rfl
  · obtain ⟨a, C, y, nm, rfl, ha, o, no, nn, q⟩ := h
    refine ⟨_, (pss_cons (ps_ost (pv 0) (pv 1))
      (pss_one (ps_ost (pv 0) (pe_kind (pv 0))))), ?_⟩
    refine ⟨_, rfl, _, rfl, a, C, rfl, o, no, .inl ⟨ha, fun dx nd ne => ?_⟩⟩
    refine ⟨_, rfl, a, C, dx, _, nm, rfl, upd_same, by rw [upd_ne ne, upd_same], nn, _, rfl, a, C, rfl, o, nn.nk, .inr ⟨dx, _, upd_same, by rw [upd_ne ne, upd_same], by show 1 ≤ 900; decide, ?_⟩⟩
    have e : upd (upd (upd H dx (exd dx [("what", y)])) a (exo a C (some dx))) dx (exd dx [("kind", .str nm), ("what", y)]) = upd (upd H dx (exd dx [("kind", .str nm), ("what", y)])) a (exo a C (some dx)) := by
      funext b
      by_cases h1 : b = dx
      · rw [h1, upd_same, upd_ne ne, upd_same]
      · rw [upd_ne h1]
        by_cases h2 : b = a
        · rw [h2, upd_same, upd_same]
        · rw [upd_ne h2, upd_ne h2, upd_ne h1, upd_ne h1]
    rw [e]
    exact q dx nd ne

def sp_check_formX (K : PySem.W.Frag) (C : Addr) : Sp := fun vs H Q E => ∃ (v : V) (d : PyData), vs = [v] ∧ Dp K H v d ∧ (formErr d = none → Q .non H) ∧ ∀ e, formErr d = some e → ∀ dx, H dx = none → E (.ref C) (some dx) (upd H dx (xdW "BadBook" (.int e)))
theorem okX_check_form (T : Tx K mg) : FnOk P w K mg base (L2.CX P w) 4 T.check_form.f T.check_form.fd ["thing"] (sp_check_formX K T.x_BadBook.C) := by
  refine T.check_form.F.okX sc_check_form (fun vs H Q E h => ?_) (fun cdv A outer s H vs Q E hr h => ?_)
  · obtain ⟨v, d, rfl, _⟩ := h; rfl
  · obtain ⟨v, d, rfl, hd, q, qe⟩ := h
    refine ⟨_, (pss_cons (ps_if (pt_not (pt_val (pe_call (okD_tuple_within T) (hr.mono (by decide)) (by rfl) T.tuple_within.g T.tuple_within.F.kp T.tuple_within.b .nil pass0 (pa_cons (pv 0) (pa_cons pe_int (pa_cons (pe_glob (v := .int 8) (by rfl) T.c_MOST_STATES.choose_spec ⟨_, rfl⟩) pa_nil))))))
        (pss_one (ps_raise rfl (takes_of rfl rfl rfl rfl) (pmk_X T.x_BadBook T.init.ti (ok_init T) (hr.mono (by decide)) T.init.b (by rfl) (pe_un un_neg pe_int))))
        pss_nil)
      (pss_one (ps_for (passes_of rfl) rfl (pi_range1 (by rfl) T.n_range (pa_cons (pe_callB call_len_seq (by rfl) T.n_len PySem.boot_len (pa_cons (pv 0) pa_nil)) pa_nil)) (pg_name (i := 1) sc_check_form.nd rfl (.inl rfl))
        (pss_one (ps_if (pt_not (pt_val (pe_call (okD_has_state_form T) (hr.mono (by decide)) (by rfl) T.has_state_form.g T.has_state_form.F.kp T.has_state_form.b .nil pass0 (pa_cons (pe_ix ix_tup (pv 0) (pv 1) (fun _ _ => rfl)) (pa_cons (pe_callB call_len_seq (by rfl) T.n_len PySem.boot_len (pa_cons (pv 0) pa_nil)) pa_nil)))))
          (pss_one (ps_raise rfl (takes_of rfl rfl rfl rfl) (pmk_X T.x_BadBook T.init.ti (ok_init T) (hr.mono (by decide)) T.init.b (by rfl) (pv 1))))
          pss_nil))))), ?_⟩
    refine ⟨_, rfl, v, d, 1, 8, rfl, hd, _, rfl, ?_⟩
    cases ht : tupD d 1 8 with
    | false =>
      have e : formErr d = some (-1) := by
        cases d with
        | tuple ds =>
          have ht : decide ((1 : Int) ≤ (ds.length : Int) ∧ (ds.length : Int) ≤ 8) = false := ht
          show (if 1 ≤ ds.length ∧ ds.length ≤ 8 then firstBad ds.length ds 0 else some (-1)) = some (-1)
          rw [if_neg]
          intro z
          have := of_decide_eq_false ht
          omega
        | _ => rfl
      exact iteT ⟨1, rfl, fun dx nd => qe _ e dx nd⟩
    | true =>
      obtain ⟨ds, rfl, l1, l8⟩ := tupD_true ht
      cases hd with
      | @tup t xs _ hT hds =>
        have len := dpAll_len hds
        have e : formErr (.tuple ds) = firstBad ds.length ds 0 := by
          show (if 1 ≤ ds.length ∧ ds.length ≤ 8 then firstBad ds.length ds 0 else some (-1)) = _
          rw [if_pos ⟨by omega, by omega⟩]
        rw [e] at q qe
        refine iteF ⟨_, rfl, t, _, rfl, .inr hT, _, rfl, by omega, by omega, for_range (lo := 0) (n := _) (fun k σ H' => H' = H ∧ ∃ y : Option V, σ = [some (.ref t), y] ∧ firstBad ds.length ds 0 = firstBad ds.length (ds.drop k) k) ⟨rfl, _, rfl, rfl⟩ ?_ ?_⟩
        · rintro k σ H' hk ⟨rfl, y, rfl, hb⟩
          have hk : k < ds.length := by
            have : ((xs.length : Int)).toNat = xs.length := Int.toNat_natCast _
            omega
          simp only [Int.zero_add]
          obtain ⟨vk, hvk, hDk⟩ := dpAll_get hds (List.getElem?_eq_getElem hk)
          have step : firstBad ds.length (ds.drop k) k = if stateD ds.length ds[k] = true then firstBad ds.length (ds.drop (k + 1)) (k + 1) else some (k : Int) := by
            rw [List.drop_eq_getElem_cons hk]
            rfl
          refine ⟨_, rfl, _, rfl, t, _, _, _, rfl, rfl, hT, atI_nat hvk, _, rfl, t, _, rfl, .inr hT, vk, ds[k], _, rfl, hDk, _, rfl, ?_⟩
          rw [len]
          cases hs : stateD ds.length ds[k] with
          | true =>
            rw [hs, if_pos rfl] at step
            exact iteF ⟨rfl, _, rfl, hb.trans step⟩
          | false =>
            rw [hs, if_neg (by simp)] at step
            exact iteT ⟨_, rfl, fun dx nd => qe _ (hb.trans step) dx nd⟩
        · rintro σ H' ⟨rfl, y, rfl, hb⟩
          have : ((xs.length : Int)).toNat = ds.length := by omega
          rw [this, List.drop_length] at hb
          exact q hb
end
end Nv
set_option Elab.async false
set_option linter.all false
set_option maxRecDepth 100000
namespace Nv
open PySem PySem.Spec PyProof.Rows L2
section
variable {P : Program} {w : World} {K : PySem.W.Frag} {mg : Str → Option Value} {base : Heap}
/-! ### books as data -/
def stD (s : State) : PyData := .tuple (s.map mvD)
def bookD (b : Book) : PyData := .tuple (b.map stD)
theorem pairs_st {n : Nat} : ∀ (s : State) (last : Int), (s.map (·.1)).Pairwise (· < ·) → (∀ p ∈ s, last < (p.1 : Int)) → (∀ p ∈ s, p.1 ≤ 99) → (∀ p ∈ s, p.2 < n) → pairsD last n (s.map mvD) = true
  | [], _, _, _, _, _ => rfl
  | p :: r, last, h1, h2, h3, h4 => by
    rw [List.map_cons, List.pairwise_cons] at h1
    have a := h2 p (by simp)
    have b := h3 p (by simp)
    have c := h4 p (by simp)
    have e : pairD last n (mvD p) = some (p.1 : Int) := by
      show (if last + 1 ≤ (p.1 : Int) ∧ (p.1 : Int) ≤ 99 ∧ (0 : Int) ≤ p.2 ∧ (p.2 : Int) ≤ n - 1 then some (p.1 : Int) else none) = _
      rw [if_pos ⟨by omega, by omega, by omega, by omega⟩]
    rw [List.map_cons, pairs_cons, e]
    refine pairs_st r (p.1 : Int) h1.2 (fun q hq => ?_) (fun q hq => h3 q (List.mem_cons_of_mem _ hq)) (fun q hq => h4 q (List.mem_cons_of_mem _ hq))
    have := h1.1 q.1 (List.mem_map.mpr ⟨q, hq, rfl⟩)
    omega
theorem state_ok {n : Nat} {s : State} (h : StOk n s) : stateD n (stD s) = true := by
  show (decide ((s.map mvD).length ≤ 5) && pairsD (-1) n (s.map mvD)) = true
  rw [pairs_st s (-1) h.rise (fun p _ => by omega) h.msg h.to, List.length_map, decide_eq_true h.few]
  rfl
theorem first_ok {n : Nat} : ∀ (l : List PyData) (i : Nat), (∀ d ∈ l, stateD n d = true) → firstBad n l i = none
  | [], _, _ => rfl
  | d :: r, i, h => by
    show (if stateD n d = true then firstBad n r (i + 1) else some (i : Int)) = none
    rw [if_pos (h d (by simp)), first_ok r (i + 1) fun e he => h e (List.mem_cons_of_mem _ he)]
theorem form_none {b : Book} (fb : FormB b) : formErr (bookD b) = none := by
  show (if 1 ≤ (b.map stD).length ∧ (b.map stD).length ≤ 8 then firstBad (b.map stD).length (b.map stD) 0 else some (-1)) = none
  rw [List.length_map, if_pos ⟨fb.one, fb.eight⟩]
  refine first_ok _ _ fun d hd => ?_
  obtain ⟨s, hs, rfl⟩ := List.mem_map.mp hd
  exact state_ok (fb.st s hs)
theorem first_at {n : Nat} : ∀ (l : List PyData) (i k : Nat) (d : PyData), l[k]? = some d → stateD n d = false → (∀ j e, j < k → l[j]? = some e → stateD n e = true) → firstBad n l i = some ((i + k : Nat) : Int)
  | [], _, _, _, h, _, _ => by simp at h
  | d :: r, i, 0, e, h, hb, _ => by
    cases h
    show (if stateD n d = true then firstBad n r (i + 1) else some (i : Int)) = _
    rw [if_neg (by rw [hb]; simp)]
    rfl
  | d :: r, i, k + 1, e, h, hb, hok => by
    show (if stateD n d = true then firstBad n r (i + 1) else some (i : Int)) = _
    rw [if_pos (hok 0 d (Nat.zero_lt_succ _) rfl), first_at r (i + 1) k e (by simpa using h) hb fun j f hj hf => hok (j + 1) f (by omega) (by simpa using hf)]
    congr 2
    omega
theorem mv_of {K : PySem.W.Frag} {H : Hp} : ∀ {s : State} {vs : List V}, DpAll K H vs (s.map mvD) → ∃ ps : List Addr, vs = ps.map V.ref ∧ Paired (MvV K H) ps s
  | [], _, .nil => ⟨[], rfl, .nil⟩
  | p :: r, _, .cons h t => by
    obtain ⟨ps, e, hp⟩ := mv_of t
    cases h with
    | tup hc hds =>
      cases hds with
      | cons h1 r1 =>
        cases r1 with
        | cons h2 r2 =>
          cases r2
          cases h1
          cases h2
          exact ⟨_ :: ps, by rw [e]; rfl, .cons hc hp⟩
theorem bk_of {K : PySem.W.Frag} {H : Hp} : ∀ {b : Book} {vs : List V}, DpAll K H vs (b.map stD) → Paired (StW K H) vs b
  | [], _, .nil => .nil
  | s :: r, _, .cons h t => by
    cases h with
    | tup hc hds =>
      obtain ⟨ps, rfl, hp⟩ := mv_of hds
      exact .cons ⟨_, ps, rfl, hc, hp⟩ (bk_of t)
theorem BkW.of {K : PySem.W.Frag} {H : Hp} {v : V} {b : Book} (h : Dp K H v (bookD b)) : BkW K H v b := by
  cases h with
  | tup hc hds => exact ⟨_, _, rfl, hc, bk_of hds⟩
/-! ### what made_book raises -/
/-- the first state to which no row comes -/
def StrayAt (b : Book) (s : Nat) : Prop := s < b.length ∧ ¬ Rch b s ∧ ∀ t, t < s → Rch b t
theorem Met.rch {b : Book} {F : List Nat} (m : Met b F) : ∀ (n j s : Nat), j ≤ n → F[j]? = some s → Rch b s := by
  intro n
  induction n with
  | zero =>
    intro j s hj e
    have : j = 0 := by omega
    subst this
    rw [m.zero] at e
    cases e
    exact .zero
  | succ n ih =>
    intro j s hj e
    by_cases h0 : j = 0
    · subst h0
      rw [m.zero] at e
      cases e
      exact .zero
    · obtain ⟨i, s', hi, hs', p, hp, rfl⟩ := m.from_ j s e h0
      exact .step (ih i s' (by omega) hs') hp
theorem Met.iff {b : Book} {F : List Nat} (m : Met b F) (s : Nat) : s ∈ F ↔ Rch b s := by
  constructor
  · intro h
    obtain ⟨j, hj, e⟩ := List.mem_iff_getElem.mp h
    exact m.rch j j s (Nat.le_refl _) (by rw [List.getElem?_eq_getElem hj, e])
  · exact m.all
/-- refused: a wrong form, or a stray -/
inductive Ref (CB CS : Addr) (d : PyData) : Addr → Int → Prop
  | form {e : Int} : formErr d = some e → Ref CB CS d CB e
  | stray {b : Book} {s : Nat} : d = bookD b → FormB b → StrayAt b s → Ref CB CS d CS s
/-- the way out of a refusal -/
def Outs (H : Hp) (E : XK) (C : Addr) (e : Int) : Prop := ∀ dx H', H dx = none → XdAt H' dx (.int e) → Ext [] H H' → E (.ref C) (some dx) H'
def sp_refused (K : PySem.W.Frag) (CB CS : Addr) : Sp := fun vs H _ E => ∃ (v : V) (d : PyData) (C : Addr) (e : Int), vs = [v] ∧ Dp K H v d ∧ Ref CB CS d C e ∧ Outs H E C e

theorem okX_made_book (T : Tx K mg) : FnOk P w K mg base (L2.CX P w) 5 T.made_book.f T.made_book.fd ["thing"] (sp_refused K T.x_BadBook.C T.x_Stray.C) := by
  refine T.made_book.F.okX sc_made_book (fun vs H Q E h => ?_) (fun cdv A outer s H vs Q E hr h => ?_)
  · obtain ⟨v, d, C, e, rfl, _⟩ := h; rfl
  · obtain ⟨v, d, C, e, rfl, hd, href, q⟩ := h
    refine ⟨_, (pss_cons (ps_expr (pe_call (okX_check_form T) (hr.mono (by decide)) (by rfl) T.check_form.g T.check_form.F.kp T.check_form.b .nil (passes_call (takes_of rfl rfl rfl rfl) (fun _ _ _ _ h => h)) (pa_cons (pv 0) pa_nil)))
      (pss_cons (ps_set (i := 1) sc_made_book.nd rfl (.inl rfl) (pe_call (ok_first_rows T) (hr.mono (by decide)) (by rfl) T.first_rows.g T.first_rows.F.kp T.first_rows.bD.choose_spec.2 T.first_rows.bD.choose_spec.1 pass0 (pa_cons (pv 0) pa_nil)))
      (pss_cons (ps_for (passes_of rfl) rfl (pi_range1 (by rfl) T.n_range (pa_cons (pe_callB call_len_seq (by rfl) T.n_len PySem.boot_len (pa_cons (pv 0) pa_nil)) pa_nil)) (pg_name (i := 2) sc_made_book.nd rfl (.inl rfl))
        (pss_one (ps_if (pt_cmp (pc_dnotin (hu_of hr) (pv 2) (pv 1)))
          (pss_one (ps_raise rfl (takes_of rfl rfl rfl rfl) (pmk_X T.x_Stray T.init.ti (ok_init T) (hr.mono (by decide)) T.init.b (by rfl) (pv 2))))
          pss_nil)))
      (PSs.nox (pss_one (ps_ret (pv 0))))))), ?_⟩
    refine ⟨_, rfl, v, d, rfl, hd, ?_⟩
    cases href with
    | form he => exact ⟨fun h => (by rw [he] at h; cases h), fun e2 he2 dx nd => (by rw [he] at he2; cases he2; exact q dx _ nd ⟨_, upd_same⟩ (.new nd))⟩
    | @stray b st eb fb hst =>
      subst eb
      have fn := form_none fb
      refine ⟨fun _ => ?_, fun e2 he2 => (by rw [fn] at he2; cases he2)⟩
      have hw := BkW.of hd
      refine ⟨_, rfl, v, b, rfl, hw, fb, fun F kvs dd H' mt hk hdd e => ?_⟩
      obtain ⟨a, ls, rfl, ha, hls⟩ := hw
      have llen := Paired.len hls
      have h8 := fb.eight
      obtain ⟨s1, s2, s3⟩ := hst
      refine ⟨_, rfl, a, _, rfl, .inr (e.tup Lsts.nil ha), _, rfl, by omega, by omega, for_range (lo := 0) (n := _) (fun k σ H2 => H2 = H' ∧ k ≤ st ∧ ∃ y : Option V, σ = [some (.ref a), some (.ref dd), y]) ⟨rfl, Nat.zero_le _, _, rfl⟩ ?_ ?_⟩
      · rintro k σ H2 hk' ⟨rfl, hle, y, rfl⟩
        simp only [Int.zero_add]
        refine ⟨_, rfl, _, rfl, dd, _, rfl, DGet.k (k := kN k) hdd, _, rfl, ?_⟩
        rw [valV_key hk]
        by_cases hks : k = st
        · subst hks
          rw [decide_eq_false (fun z => s2 ((mt.iff _).mp z))]
          refine iteT ⟨_, rfl, fun dx nd => q dx _ (e.free nd) ⟨_, upd_same⟩ (e.put2 nd)⟩
        · rw [decide_eq_true ((mt.iff _).mpr (s3 k (by omega)))]
          exact iteF ⟨rfl, by omega, _, rfl⟩
      · rintro σ H2 ⟨rfl, hle, y, rfl⟩
        exfalso
        have : ((ls.length : Int)).toNat = ls.length := Int.toNat_natCast _
        omega
end
end Nv
set_option linter.all false
namespace Nv
/-! ### the order in which states are met -/
def addS (F : List Nat) : State → List Nat
  | [] => F
  | p :: r => addS (if p.2 ∈ F then F else F ++ [p.2]) r
def stB (b : Book) : Nat → List Nat
  | 0 => [0]
  | i + 1 => match (stB b i)[i]? with
    | some s => addS (stB b i) (mvs b s)
    | none => stB b i
def ordB (b : Book) : List Nat := stB b b.length
theorem addS_append : ∀ (l r : State) (F : List Nat), addS F (l ++ r) = addS (addS F l) r
  | [], _, _ => rfl
  | p :: l, r, F => by
    show addS _ (l ++ r) = addS (addS _ l) r
    exact addS_append l r _
theorem addS_take {F G : List Nat} {p : Nat × Nat} {ms : State} {k : Nat} (h : ms[k]? = some p) (e : F = addS G (ms.take k)) : addS G (ms.take (k + 1)) = if p.2 ∈ F then F else F ++ [p.2] := by
  rw [List.take_add_one, h]
  show addS G (ms.take k ++ [p]) = _
  rw [addS_append, ← e]
  rfl
theorem addS_pre : ∀ (l : State) (F : List Nat), F <+: addS F l
  | [], F => List.prefix_refl _
  | p :: l, F => by
    show F <+: addS (if p.2 ∈ F then F else F ++ [p.2]) l
    split
    · exact addS_pre l F
    · exact (List.prefix_append _ _).trans (addS_pre l _)
theorem stB_step {b : Book} {i s : Nat} (h : (stB b i)[i]? = some s) : stB b (i + 1) = addS (stB b i) (mvs b s) := by
  show (match (stB b i)[i]? with
    | some s => addS (stB b i) (mvs b s)
    | none => stB b i) = _
  rw [h]
theorem stB_rest {b : Book} {i : Nat} (h : (stB b i).length ≤ i) : ∀ k, stB b (i + k) = stB b i
  | 0 => rfl
  | k + 1 => by
    have ih := stB_rest h k
    show (match (stB b (i + k))[i + k]? with
      | some s => addS (stB b (i + k)) (mvs b s)
      | none => stB b (i + k)) = _
    rw [ih, List.getElem?_eq_none (by omega)]
theorem stB_pre {b : Book} (i : Nat) : ∀ k, stB b i <+: stB b (i + k)
  | 0 => List.prefix_refl _
  | k + 1 => by
    refine (stB_pre i k).trans ?_
    show stB b (i + k) <+: (match (stB b (i + k))[i + k]? with
      | some s => addS (stB b (i + k)) (mvs b s)
      | none => stB b (i + k))
    split
    · exact addS_pre _ _
    · exact List.prefix_refl _
theorem stB_end {b : Book} {i : Nat} (h : (stB b i).length ≤ i) (hi : i ≤ b.length) : ordB b = stB b i := by
  obtain ⟨k, hk⟩ := Nat.le.dest hi
  unfold ordB
  rw [← hk]
  exact stB_rest h k
structure MetIO (b : Book) (F : List Nat) (i : Nat) : Prop extends MetI b F i where
  eq : F = stB b i
structure MetWO (b : Book) (F : List Nat) (i s k : Nat) : Prop extends MetW b F i s k where
  eq : F = addS (stB b i) ((mvs b s).take k)
structure MetO (b : Book) (F : List Nat) : Prop extends Met b F where
  eq : F = ordB b
theorem MetIO.first {b : Book} (h : 1 ≤ b.length) : MetIO b [0] 0 := ⟨.first h, rfl⟩
theorem MetIO.begin {b : Book} {F : List Nat} {i s : Nat} (m : MetIO b F i) (h : F[i]? = some s) : MetWO b F i s 0 := ⟨m.toMetI.begin h, by rw [m.eq]; rfl⟩
theorem MetWO.skip {b : Book} {F : List Nat} {i s k : Nat} {p : Nat × Nat} (m : MetWO b F i s k) (h : (mvs b s)[k]? = some p) (hp : p.2 ∈ F) : MetWO b F i s (k + 1) := ⟨m.toMetW.skip h hp, by rw [addS_take h m.eq, if_pos hp]⟩
theorem MetWO.push {b : Book} {F : List Nat} {i s k : Nat} {p : Nat × Nat} (m : MetWO b F i s k) (h : (mvs b s)[k]? = some p) (hp : p.2 ∉ F) (hb : p.2 < b.length) : MetWO b (F ++ [p.2]) i s (k + 1) := ⟨m.toMetW.push h hp hb, by rw [addS_take h m.eq, if_neg hp]⟩
theorem MetWO.pre {b : Book} {F : List Nat} {i s k : Nat} (m : MetWO b F i s k) : stB b i <+: F := by
  rw [m.eq]
  exact addS_pre _ _
theorem stB_len (b : Book) : ∀ i, 1 ≤ (stB b i).length
  | 0 => Nat.le_refl _
  | i + 1 => by
    have h := (stB_pre (b := b) i 1).length_le
    have := stB_len b i
    show 1 ≤ (stB b (i + 1)).length
    omega
theorem MetWO.done {b : Book} {F : List Nat} {i s k : Nat} (m : MetWO b F i s k) (g : (stB b i)[i]? = some s) (hk : (mvs b s).length ≤ k) : MetIO b F (i + 1) := ⟨m.toMetW.done hk, by
  rw [stB_step g, m.eq, List.take_of_length_le hk]⟩
theorem MetIO.met {b : Book} {F : List Nat} {i : Nat} (m : MetIO b F i) (h : i = F.length) : MetO b F := ⟨m.toMetI.met (.inl h), by
  rw [stB_end (i := i) (by rw [← m.eq]; omega) (by rw [h]; exact nodup_le m.nd m.lt)]
  exact m.eq⟩
theorem metO {b : Book} (fb : FormB b) : MetO b (ordB b) := by
  have row : ∀ {F : List Nat} {i s : Nat}, MetIO b F i → F[i]? = some s → ∀ k, k ≤ (mvs b s).length → ∃ F', MetWO b F' i s k := by
    intro F i s mi hs k
    induction k with
    | zero => exact fun _ => ⟨F, mi.begin hs⟩
    | succ k ih =>
      intro hk
      obtain ⟨F', mw⟩ := ih (by omega)
      have hp : (mvs b s)[k]? = some (mvs b s)[k] := List.getElem?_eq_getElem (by omega)
      by_cases hin : (mvs b s)[k].2 ∈ F'
      · exact ⟨F', mw.skip hp hin⟩
      · exact ⟨_, mw.push hp hin (fb.to (List.getElem_mem _))⟩
  have all : ∀ n, ∃ i F, MetIO b F i ∧ (i = F.length ∨ i = n) := by
    intro n
    induction n with
    | zero => exact ⟨0, [0], .first fb.one, .inr rfl⟩
    | succ n ih =>
      obtain ⟨i, F, mi, h⟩ := ih
      by_cases hi : i < F.length
      · have hs : F[i]? = some F[i] := List.getElem?_eq_getElem hi
        obtain ⟨F', mw⟩ := row mi hs _ (Nat.le_refl _)
        have g : (stB b i)[i]? = some F[i] := by rw [← mi.eq]; exact hs
        refine ⟨i + 1, F', mw.done g (Nat.le_refl _), .inr ?_⟩
        omega
      · have := mi.le
        exact ⟨i, F, mi, .inl (by omega)⟩
  obtain ⟨i, F, mi, h⟩ := all b.length
  have h1 : F.length ≤ b.length := nodup_le mi.nd mi.lt
  have h2 := mi.le
  have mo := mi.met (by omega)
  rw [mo.eq] at mo
  exact mo
theorem ren_okB {b : Book} (fb : FormB b) : OkB (rename b (ordB b)) :=
  (metO fb).toMet.okB fb.eight fun s hs => ⟨(fb.ok hs).few, (fb.ok hs).rise, (fb.ok hs).msg⟩
/-! ### the book by its own numbers -/
theorem ren_in {F G : List Nat} (nd : F.Nodup) (pre : G <+: F) {x : Nat} (hx : x ∈ F) : F.idxOf x ∈ List.range G.length ↔ x ∈ G := by
  obtain ⟨R, rfl⟩ := pre
  rw [List.mem_range]
  constructor
  · intro h
    by_cases hG : x ∈ G
    · exact hG
    · rw [List.idxOf_append, if_neg hG] at h
      omega
  · intro h
    rw [List.idxOf_append, if_pos h]
    exact List.idxOf_lt_length_of_mem h
theorem addS_ren {F : List Nat} (nd : F.Nodup) : ∀ (ms : State) (G : List Nat), addS G ms <+: F → (∀ p ∈ ms, p.2 ∈ F) → addS (List.range G.length) (ms.map fun p => (p.1, F.idxOf p.2)) = List.range (addS G ms).length
  | [], _, _, _ => rfl
  | p :: r, G, pre, hF => by
    have pre0 : addS (if p.2 ∈ G then G else G ++ [p.2]) r <+: F := pre
    have preG : G <+: F := (addS_pre (p :: r) G).trans pre
    have hp := hF p (List.mem_cons_self ..)
    have ih := addS_ren nd r (if p.2 ∈ G then G else G ++ [p.2]) pre0 fun q hq => hF q (List.mem_cons_of_mem _ hq)
    show addS (if F.idxOf p.2 ∈ List.range G.length then List.range G.length else List.range G.length ++ [F.idxOf p.2]) (r.map fun p => (p.1, F.idxOf p.2)) = List.range (addS (if p.2 ∈ G then G else G ++ [p.2]) r).length
    rw [← ih]
    by_cases h : p.2 ∈ G
    · rw [if_pos ((ren_in nd preG hp).mpr h), if_pos h]
    · rw [if_neg (fun z => h ((ren_in nd preG hp).mp z)), if_neg h]
      have pre1 : G ++ [p.2] <+: F := by
        rw [if_neg h] at pre0
        exact (addS_pre _ _).trans pre0
      obtain ⟨R, rfl⟩ := pre1
      have e : (G ++ [p.2] ++ R).idxOf p.2 = G.length := by
        rw [List.append_assoc, List.idxOf_append, if_neg h]
        simp
      rw [e, List.length_append, List.length_singleton, List.range_succ]
theorem stB_ren {b : Book} {F : List Nat} (m : MetO b F) (hm : ∀ s ∈ F, ∀ p ∈ mvs b s, p.2 ∈ F) : ∀ i, stB (rename b F) i = List.range (stB b i).length
  | 0 => rfl
  | i + 1 => by
    have ih := stB_ren m hm i
    have pre : stB b (i + 1) <+: F := by
      rw [m.eq]
      by_cases h : i + 1 ≤ b.length
      · obtain ⟨k, hk⟩ := Nat.le.dest h
        unfold ordB
        rw [← hk]
        exact stB_pre _ _
      · have hl : (ordB b).length ≤ b.length := by rw [← m.eq]; exact nodup_le m.nd m.lt
        obtain ⟨k, hk⟩ := Nat.le.dest (show b.length ≤ i + 1 by omega)
        have := stB_rest (b := b) (i := b.length) hl k
        rw [← hk, this]
        exact List.prefix_refl _
    have pre0 : stB b i <+: F := (stB_pre i 1).trans pre
    cases hs : (stB b i)[i]? with
    | none =>
      have hl := List.getElem?_eq_none_iff.mp hs
      have e1 := stB_rest (b := b) hl 1
      have e2 := stB_rest (b := rename b F) (i := i) (by rw [ih, List.length_range]; exact hl) 1
      rw [e1, e2, ih]
    | some s =>
      have hl := (List.getElem?_eq_some_iff.mp hs).1
      have hF : F[i]? = some s := by
        obtain ⟨R, rfl⟩ := pre0
        rw [List.getElem?_append_left hl]
        exact hs
      have hsF := List.mem_of_getElem? hF
      rw [stB_step hs] at pre ⊢
      have hr : (stB (rename b F) i)[i]? = some i := by rw [ih, List.getElem?_range hl]
      rw [stB_step hr, rename_at hF, ih]
      exact addS_ren m.nd _ _ pre fun p hp => hm s hsF p hp
theorem ren_self {b : Book} {F : List Nat} (m : MetO b F) : ordB (rename b F) = List.range F.length ∧ rename (rename b F) (List.range F.length) = rename b F := by
  have e : ordB (rename b F) = List.range F.length := by
    have h := stB_ren m m.cl
    have hl : F.length ≤ b.length := nodup_le m.nd m.lt
    have hF : stB b F.length = F := by
      have hpre : stB b F.length <+: F := by
        rw [m.eq]
        obtain ⟨k, hk⟩ := Nat.le.dest (show (ordB b).length ≤ b.length by rw [← m.eq]; exact hl)
        have := stB_pre (b := b) (ordB b).length k
        rw [hk] at this
        exact this
      -- at F.length all is met
      have : ∀ i, i ≤ F.length → i < (stB b i).length ∨ stB b i = F := by
        intro i hi
        by_cases hc : (stB b i).length ≤ i
        · refine .inr ?_
          rw [m.eq, stB_end hc (by omega)]
        · exact .inl (by omega)
      rcases this F.length (Nat.le_refl _) with h1 | h1
      · have := hpre.length_le
        omega
      · exact h1
    show stB (rename b F) (rename b F).length = _
    rw [rename_len, h, hF]
  refine ⟨e, ?_⟩
  refine List.ext_getElem? fun k => ?_
  unfold rename
  rw [List.getElem?_map]
  by_cases hk : k < F.length
  · rw [List.getElem?_range hk, List.getElem?_map, List.getElem?_eq_getElem hk]
    have hF : F[k]? = some F[k] := List.getElem?_eq_getElem hk
    show some ((mvs (rename b F) k).map fun p => (p.1, (List.range F.length).idxOf p.2)) = some ((mvs b F[k]).map fun p => (p.1, F.idxOf p.2))
    rw [rename_at hF, List.map_map]
    refine congrArg some (List.map_congr_left fun p hp => ?_)
    have hm := m.cl _ (List.getElem_mem hk) p hp
    have hlt := List.idxOf_lt_length_of_mem hm
    show (p.1, (List.range F.length).idxOf (F.idxOf p.2)) = (p.1, F.idxOf p.2)
    rw [idx_of List.nodup_range (List.getElem?_range hlt)]
  · rw [List.getElem?_eq_none (by rw [List.length_range]; omega), List.getElem?_map, List.getElem?_eq_none (by omega)]
    rfl
end Nv
set_option linter.all false
namespace Nv
/-! ### a list's things in the order in which they come first -/
section
variable {α β : Type} [DecidableEq α] [DecidableEq β]
def firsts (l : List α) : List α := l.foldl (fun F x => if x ∈ F then F else F ++ [x]) []
theorem firsts_snoc (l : List α) (x : α) : firsts (l ++ [x]) = if x ∈ firsts l then firsts l else firsts l ++ [x] := by
  unfold firsts
  rw [List.foldl_append]
  rfl
theorem snoc_ind {P : List α → Prop} (h0 : P []) (h1 : ∀ l x, P l → P (l ++ [x])) (l : List α) : P l := by
  have key : ∀ r : List α, P r.reverse := by
    intro r
    induction r with
    | nil => exact h0
    | cons a r ih =>
      rw [List.reverse_cons]
      exact h1 _ _ ih
  have := key l.reverse
  rwa [List.reverse_reverse] at this
theorem mem_firsts {l : List α} {y : α} : y ∈ firsts l ↔ y ∈ l := by
  induction l using snoc_ind with
  | h0 => exact Iff.rfl
  | h1 l x ih =>
    rw [firsts_snoc]
    split
    · rename_i h
      rw [ih, List.mem_append, List.mem_singleton]
      constructor
      · exact .inl
      · rintro (h2 | rfl)
        · exact h2
        · exact ih.mp h
    · rw [List.mem_append, List.mem_append, ih]
theorem firsts_nd (l : List α) : (firsts l).Nodup := by
  induction l using snoc_ind with
  | h0 => exact List.nodup_nil
  | h1 l x ih =>
    rw [firsts_snoc]
    split
    · exact ih
    · rename_i h
      exact List.nodup_append.mpr ⟨ih, by simp, fun a ha b hb e => h (by rw [List.mem_singleton.mp hb] at e; rw [← e]; exact ha)⟩
theorem firsts_le (l : List α) : (firsts l).length ≤ l.length := by
  induction l using snoc_ind with
  | h0 => exact Nat.le_refl _
  | h1 l x ih =>
    rw [firsts_snoc]
    split
    · rw [List.length_append]; omega
    · rw [List.length_append, List.length_append]; omega
theorem firsts_pos {l : List α} (h : l ≠ []) : 1 ≤ (firsts l).length := by
  obtain ⟨x, hx⟩ := List.exists_mem_of_ne_nil _ h
  exact List.length_pos_of_mem (mem_firsts.mpr hx)
theorem idx_any {F : List α} (nd : F.Nodup) {j : Nat} {s : α} (h : F[j]? = some s) : F.idxOf s = j := by
  obtain ⟨hj, e⟩ := List.getElem?_eq_some_iff.mp h
  rw [← e]
  exact List.Nodup.idxOf_getElem nd j hj
theorem firsts_head {l : List α} {x : α} (h : l[0]? = some x) : (firsts l)[0]? = some x := by
  induction l using snoc_ind with
  | h0 => cases h
  | h1 l y ih =>
    rw [firsts_snoc]
    by_cases e : l = []
    · subst e
      simp at h
      subst h
      rfl
    · have hl : 0 < l.length := List.length_pos_iff.mpr e
      rw [List.getElem?_append_left hl] at h
      have ih := ih h
      split
      · exact ih
      · rw [List.getElem?_append_left (List.getElem?_eq_some_iff.mp ih).1]
        exact ih
/-- by numbers -/
def numOf (l : List α) : List Nat := l.map (firsts l).idxOf
theorem idxOf_app {F : List α} {x y : α} (h : x ∈ F) : (F ++ [y]).idxOf x = F.idxOf x := by rw [List.idxOf_append, if_pos h]
theorem idxOf_new {F : List α} {y : α} (h : y ∉ F) : (F ++ [y]).idxOf y = F.length := by
  rw [List.idxOf_append, if_neg h]
  simp
theorem numOf_snoc (l : List α) (x : α) : numOf (l ++ [x]) = numOf l ++ [(firsts (l ++ [x])).idxOf x] := by
  unfold numOf
  rw [List.map_append]
  congr 1
  refine List.map_congr_left fun y hy => ?_
  rw [firsts_snoc]
  split
  · rfl
  · exact idxOf_app (mem_firsts.mpr hy)
theorem numOf_firsts (l : List α) : firsts (numOf l) = List.range (firsts l).length := by
  induction l using snoc_ind with
  | h0 => rfl
  | h1 l x ih =>
    rw [numOf_snoc, firsts_snoc (numOf l), ih]
    rw [firsts_snoc l]
    by_cases h : x ∈ firsts l
    · rw [if_pos h]
      have : (firsts l).idxOf x ∈ List.range (firsts l).length := List.mem_range.mpr (List.idxOf_lt_length_of_mem h)
      rw [if_pos this]
    · rw [if_neg h, idxOf_new h]
      have : (firsts l).length ∉ List.range (firsts l).length := fun z => by have := List.mem_range.mp z; omega
      rw [if_neg this, List.length_append, List.length_singleton, List.range_succ]
theorem numOf_len (l : List α) : (numOf l).length = l.length := by unfold numOf; rw [List.length_map]
theorem numOf_at {l : List α} {i : Nat} {x : α} (h : l[i]? = some x) : (numOf l)[i]? = some ((firsts l).idxOf x) := by
  unfold numOf
  rw [List.getElem?_map, h]
  rfl
/-- what a number stands for -/
theorem numOf_get {l : List α} {i : Nat} {x : α} (h : l[i]? = some x) : (firsts l)[(firsts l).idxOf x]? = some x := by
  have hm := mem_firsts.mpr (List.mem_of_getElem? h)
  have hl := List.idxOf_lt_length_of_mem hm
  rw [List.getElem?_eq_getElem hl]
  exact congrArg some (List.getElem_idxOf hl)
theorem numOf_self {l : List Nat} {m : Nat} (h : firsts l = List.range m) : numOf l = l := by
  unfold numOf
  rw [h]
  conv => rhs; rw [← List.map_id l]
  refine List.map_congr_left fun x hx => ?_
  have hx' : x ∈ List.range m := by rw [← h]; exact mem_firsts.mpr hx
  exact idx_of List.nodup_range (List.getElem?_range (List.mem_range.mp hx'))
/-- a thing's place -/
def plc (F : List α) (x : α) : Nat := F.idxOf x
theorem plc_self {x : α} {F : List α} : plc (x :: F) x = 0 := List.idxOf_cons_self
theorem plc_ne {x y : α} {F : List α} (h : ¬ y = x) : plc (y :: F) x = plc F x + 1 := by
  have e : (y == x) = false := beq_eq_false_iff_ne.mpr h
  show List.idxOf x (y :: F) = List.idxOf x F + 1
  rw [List.idxOf_cons, e]
  rfl
theorem numOf_plc {l : List α} {i : Nat} {x : α} (h : l[i]? = some x) : (numOf l)[i]? = some (plc (firsts l) x) := numOf_at h
/-- two lists, the first of which parts all that the second one parts -/
theorem firsts_two : ∀ (l : List (α × β)), (∀ p ∈ l, ∀ q ∈ l, p.1 = q.1 → p.2 = q.2) → (firsts (l.map (·.2))).length ≤ (firsts (l.map (·.1))).length ∧
    ((firsts (l.map (·.2))).length = (firsts (l.map (·.1))).length → numOf (l.map (·.1)) = numOf (l.map (·.2))) := by
  intro l
  induction l using snoc_ind with
  | h0 => exact fun _ => ⟨Nat.le_refl _, fun _ => rfl⟩
  | h1 l z ih =>
    intro h
    obtain ⟨i1, i2⟩ := ih fun p hp q hq => h p (List.mem_append_left _ hp) q (List.mem_append_left _ hq)
    have e1 : (l ++ [z]).map (·.1) = l.map (·.1) ++ [z.1] := by rw [List.map_append]; rfl
    have e2 : (l ++ [z]).map (·.2) = l.map (·.2) ++ [z.2] := by rw [List.map_append]; rfl
    rw [e1, e2, numOf_snoc, numOf_snoc, firsts_snoc, firsts_snoc]
    by_cases h1 : z.1 ∈ firsts (l.map (·.1))
    · obtain ⟨p, hp, ep⟩ := List.mem_map.mp (mem_firsts.mp h1)
      have e : p.2 = z.2 := h p (List.mem_append_left _ hp) z (by simp) ep
      have h2 : z.2 ∈ firsts (l.map (·.2)) := mem_firsts.mpr (List.mem_map.mpr ⟨p, hp, e⟩)
      rw [if_pos h1, if_pos h2]
      refine ⟨i1, fun q => ?_⟩
      have n := i2 q
      rw [n]
      congr 2
      obtain ⟨j, hj, ej⟩ := List.mem_iff_getElem.mp hp
      have a1 := numOf_at (l := l.map (·.1)) (i := j) (x := p.1) (by rw [List.getElem?_map, List.getElem?_eq_getElem hj, ej]; rfl)
      have a2 := numOf_at (l := l.map (·.2)) (i := j) (x := p.2) (by rw [List.getElem?_map, List.getElem?_eq_getElem hj, ej]; rfl)
      rw [n, a2] at a1
      rw [← ep, ← e]
      exact (Option.some.inj a1).symm
    · rw [if_neg h1, List.length_append, List.length_singleton]
      by_cases h2 : z.2 ∈ firsts (l.map (·.2))
      · rw [if_pos h2]
        exact ⟨by omega, fun q => absurd q (by omega)⟩
      · rw [if_neg h2, List.length_append, List.length_singleton]
        refine ⟨by omega, fun q => ?_⟩
        have q : (firsts (l.map (·.2))).length = (firsts (l.map (·.1))).length := by omega
        rw [i2 q, idxOf_new h1, idxOf_new h2, q]
end
/-! ### kinds of states, round by round -/
def signB (ks : List Nat) (s : State) : State := s.map fun p => (p.1, ks.getD p.2 0)
def signsB (b : Book) (ks : List Nat) : Book := b.map (signB ks)
theorem signsB_len {b : Book} {ks : List Nat} : (signsB b ks).length = b.length := by unfold signsB; rw [List.length_map]
theorem signsB_at {b : Book} {ks : List Nat} {s : Nat} (h : s < b.length) : (signsB b ks)[s]? = some (signB ks (mvs b s)) := by
  unfold signsB
  rw [List.getElem?_map, mvs_lt h]
  rfl
/-- related states have the same messages, which lead to related states -/
def Bis2 (b c : Book) (R : Nat → Nat → Prop) : Prop := ∀ s t, R s t → (mvs b s).map (·.1) = (mvs c t).map (·.1) ∧ ∀ (i : Nat) (p q : Nat × Nat), (mvs b s)[i]? = some p → (mvs c t)[i]? = some q → R p.2 q.2
theorem sign_of {ks : List Nat} : ∀ {x y : State}, x.map (·.1) = y.map (·.1) → (∀ (i : Nat) (p q : Nat × Nat), x[i]? = some p → y[i]? = some q → ks.getD p.2 0 = ks.getD q.2 0) → signB ks x = signB ks y
  | [], [], _, _ => rfl
  | [], _ :: _, e, _ => nomatch e
  | _ :: _, [], e, _ => nomatch e
  | p :: x, q :: y, e, h => by
    rw [List.map_cons, List.map_cons] at e
    injection e with e1 e2
    show (p.1, ks.getD p.2 0) :: signB ks x = (q.1, ks.getD q.2 0) :: signB ks y
    rw [e1, h 0 p q rfl rfl, sign_of e2 fun i p q h1 h2 => h (i + 1) p q (by simpa using h1) (by simpa using h2)]
structure KInv (b : Book) (ks : List Nat) (m : Nat) : Prop where
  coarse : ∀ R, Bis2 b b R → ∀ s t, s < b.length → t < b.length → R s t → ks.getD s 0 = ks.getD t 0
  len : ks.length = b.length
  num : firsts ks = List.range m
  ref : ∀ s t, s < b.length → t < b.length → signB ks (mvs b s) = signB ks (mvs b t) → ks.getD s 0 = ks.getD t 0
theorem KInv.first {b : Book} (h : 1 ≤ b.length) : KInv b (List.replicate b.length 0) 1 where
  coarse := fun R _ s t hs ht _ => by
    rw [List.getD_eq_getElem?_getD, List.getD_eq_getElem?_getD, List.getElem?_replicate, List.getElem?_replicate, if_pos hs, if_pos ht]
  len := List.length_replicate
  num := by
    have : ∀ n, firsts (List.replicate (n + 1) 0) = [0] := by
      intro n
      induction n with
      | zero => rfl
      | succ n ih =>
        rw [List.replicate_succ', firsts_snoc, ih]
        rfl
    obtain ⟨n, hn⟩ : ∃ n, b.length = n + 1 := ⟨b.length - 1, by omega⟩
    rw [hn, this n]
    rfl
  ref := fun s t hs ht _ => by
    rw [List.getD_eq_getElem?_getD, List.getD_eq_getElem?_getD, List.getElem?_replicate, List.getElem?_replicate, if_pos hs, if_pos ht]
theorem getD_at {ks : List Nat} {s k : Nat} (h : ks[s]? = some k) : ks.getD s 0 = k := by rw [List.getD_eq_getElem?_getD, h]; rfl
theorem KInv.lt {b : Book} {ks : List Nat} {m : Nat} (h : KInv b ks m) {s : Nat} (hs : s < b.length) : ks.getD s 0 < m := by
  have hl : s < ks.length := by rw [h.len]; exact hs
  have e : ks[s]? = some ks[s] := List.getElem?_eq_getElem hl
  rw [getD_at e]
  have : ks[s] ∈ firsts ks := mem_firsts.mpr (List.getElem_mem hl)
  rw [h.num] at this
  exact List.mem_range.mp this
theorem KInv.pairs {b : Book} {ks : List Nat} {m : Nat} (h : KInv b ks m) : ∀ p ∈ (signsB b ks).zip ks, ∀ q ∈ (signsB b ks).zip ks, p.1 = q.1 → p.2 = q.2 := by
  intro p hp q hq e
  obtain ⟨i, hi⟩ := List.mem_iff_getElem?.mp hp
  obtain ⟨j, hj⟩ := List.mem_iff_getElem?.mp hq
  obtain ⟨i1, i2⟩ := List.getElem?_zip_eq_some.mp hi
  obtain ⟨j1, j2⟩ := List.getElem?_zip_eq_some.mp hj
  have li : i < b.length := by have := (List.getElem?_eq_some_iff.mp i1).1; rwa [signsB_len] at this
  have lj : j < b.length := by have := (List.getElem?_eq_some_iff.mp j1).1; rwa [signsB_len] at this
  rw [signsB_at li] at i1
  rw [signsB_at lj] at j1
  have := h.ref i j li lj (by rw [Option.some.inj i1, Option.some.inj j1, e])
  rw [getD_at i2, getD_at j2] at this
  exact this
theorem KInv.zip {b : Book} {ks : List Nat} {m : Nat} (h : KInv b ks m) : ((signsB b ks).zip ks).map (·.1) = signsB b ks ∧ ((signsB b ks).zip ks).map (·.2) = ks := by
  have hl : (signsB b ks).length = ks.length := by rw [signsB_len, h.len]
  exact ⟨List.map_fst_zip (Nat.le_of_eq hl), List.map_snd_zip (Nat.le_of_eq hl.symm)⟩
theorem KInv.ge {b : Book} {ks : List Nat} {m : Nat} (h : KInv b ks m) : m ≤ (firsts (signsB b ks)).length := by
  have := (firsts_two _ h.pairs).1
  rw [h.zip.1, h.zip.2, h.num, List.length_range] at this
  exact this
theorem KInv.same {b : Book} {ks : List Nat} {m : Nat} (h : KInv b ks m) (e : (firsts (signsB b ks)).length = m) : numOf (signsB b ks) = ks := by
  have := (firsts_two _ h.pairs).2
  rw [h.zip.1, h.zip.2, h.num, List.length_range] at this
  rw [this e.symm]
  exact numOf_self h.num
theorem signB_eq {ks : List Nat} : ∀ {x y : State}, signB ks x = signB ks y → ∀ {ls : List Nat}, (∀ p ∈ x, ∀ q ∈ y, ks.getD p.2 0 = ks.getD q.2 0 → ls.getD p.2 0 = ls.getD q.2 0) → signB ls x = signB ls y
  | [], [], _, _, _ => rfl
  | [], _ :: _, e, _, _ => nomatch e
  | _ :: _, [], e, _, _ => nomatch e
  | p :: x, q :: y, e, ls, h => by
    have e : (p.1, ks.getD p.2 0) :: signB ks x = (q.1, ks.getD q.2 0) :: signB ks y := e
    injection e with e1 e2
    injection e1 with e3 e4
    show (p.1, ls.getD p.2 0) :: signB ls x = (q.1, ls.getD q.2 0) :: signB ls y
    rw [e3, h p (by simp) q (by simp) e4, signB_eq e2 fun p hp q hq => h p (by simp [hp]) q (by simp [hq])]
theorem KInv.next {b : Book} {ks : List Nat} {m : Nat} (fb : FormB b) (h : KInv b ks m) : KInv b (numOf (signsB b ks)) (firsts (signsB b ks)).length where
  coarse := fun R hR s t hs ht r => by
    obtain ⟨e1, e2⟩ := hR s t r
    have e : signB ks (mvs b s) = signB ks (mvs b t) := sign_of e1 fun i p q hp hq => h.coarse R hR _ _ (fb.to (List.mem_of_getElem? hp)) (fb.to (List.mem_of_getElem? hq)) (e2 i p q hp hq)
    have a1 := numOf_at (signsB_at (ks := ks) hs)
    have a2 := numOf_at (signsB_at (ks := ks) ht)
    rw [getD_at a1, getD_at a2, e]
  len := by rw [numOf_len, signsB_len]
  num := numOf_firsts _
  ref := fun s t hs ht e => by
    have eq_of : ∀ {x y : Nat}, x < b.length → y < b.length → (numOf (signsB b ks)).getD x 0 = (numOf (signsB b ks)).getD y 0 → signB ks (mvs b x) = signB ks (mvs b y) := by
      intro x y hx hy e
      have a1 := numOf_at (signsB_at (ks := ks) hx)
      have a2 := numOf_at (signsB_at (ks := ks) hy)
      rw [getD_at a1, getD_at a2] at e
      have g1 := numOf_get (signsB_at (ks := ks) hx)
      have g2 := numOf_get (signsB_at (ks := ks) hy)
      rw [e, g2] at g1
      exact (Option.some.inj g1).symm
    have e2 : signB ks (mvs b s) = signB ks (mvs b t) := signB_eq e fun p hp q hq ez => h.ref _ _ (fb.to hp) (fb.to hq) (eq_of (fb.to hp) (fb.to hq) ez)
    have a1 := numOf_at (signsB_at (ks := ks) hs)
    have a2 := numOf_at (signsB_at (ks := ks) ht)
    rw [getD_at a1, getD_at a2, e2]
/-! ### one book over another: each state has the rows of its state there -/
structure Hom (b c : Book) (f : Nat → Nat) : Prop where
  zero : f 0 = 0
  lt : ∀ s, s < b.length → f s < c.length
  mv : ∀ s, s < b.length → mvs c (f s) = (mvs b s).map fun p => (p.1, f p.2)
theorem Hom.comp {b c d : Book} {f g : Nat → Nat} (fb : FormB b) (h : Hom b c f) (k : Hom c d g) : Hom b d fun s => g (f s) where
  zero := by show g (f 0) = 0; rw [h.zero, k.zero]
  lt := fun s hs => k.lt _ (h.lt s hs)
  mv := fun s hs => by
    rw [k.mv _ (h.lt s hs), h.mv s hs, List.map_map]
    rfl
theorem Hom.rch {b c : Book} {f : Nat → Nat} (fb : FormB b) (h : Hom b c f) {x : Nat} (hx : Rch c x) : ∃ s, s < b.length ∧ f s = x := by
  induction hx with
  | zero => exact ⟨0, fb.one, h.zero⟩
  | @step x p _ hp ih =>
    obtain ⟨s, hs, rfl⟩ := ih
    rw [h.mv s hs] at hp
    obtain ⟨q, hq, rfl⟩ := List.mem_map.mp hp
    exact ⟨q.2, fb.to hq, rfl⟩
theorem Hom.onto {b c : Book} {f : Nat → Nat} (fb : FormB b) (oc : OkB c) (h : Hom b c f) {x : Nat} (hx : x < c.length) : ∃ s, s < b.length ∧ f s = x := h.rch fb (oc.reach x hx)
theorem Hom.down {b c : Book} {f : Nat → Nat} (fb : FormB b) (h : Hom b c f) {s : Nat} (hs : Rch b s) : Rch c (f s) := by
  induction hs with
  | zero => rw [h.zero]; exact .zero
  | @step s p hr hp ih =>
    have hs : s < b.length := by
      by_cases hs : s < b.length
      · exact hs
      · rw [mvs_out (by omega)] at hp; cases hp
    have : (p.1, f p.2) ∈ mvs c (f s) := by
      rw [h.mv s hs]
      exact List.mem_map.mpr ⟨p, hp, rfl⟩
    exact ih.step this
/-- all states of a whole book are met -/
theorem met_all {b : Book} {F : List Nat} (ok : OkB b) (m : Met b F) {s : Nat} (hs : s < b.length) : s ∈ F := by
  have key : ∀ {s : Nat}, Rch b s → s ∈ F := by
    intro s h
    induction h with
    | zero => exact List.mem_of_getElem? m.zero
    | step _ hp ih => exact m.cl _ ih _ hp
  exact key (ok.reach s hs)
theorem ren_hom {b : Book} {F : List Nat} (ok : OkB b) (m : Met b F) : Hom b (rename b F) F.idxOf where
  zero := idx_of m.nd m.zero
  lt := fun s hs => by rw [rename_len]; exact List.idxOf_lt_length_of_mem (met_all ok m hs)
  mv := fun s hs => by
    have hm := met_all ok m hs
    have hl := List.idxOf_lt_length_of_mem hm
    exact rename_at (by rw [List.getElem?_eq_getElem hl]; exact congrArg some (List.getElem_idxOf hl))
/-- the least states of a book -/
structure LeastB (b : Book) (ks : List Nat) (m : Nat) : Prop extends KInv b ks m where
  stop : (firsts (signsB b ks)).length = m
theorem LeastB.form {b : Book} {ks : List Nat} {m : Nat} (fb : FormB b) (h : LeastB b ks m) : FormB (firsts (signsB b ks)) where
  one := firsts_pos (fun e => by
    have := fb.one
    have h2 : b.length = 0 := by rw [← signsB_len (b := b) (ks := ks), e]; rfl
    omega)
  eight := Nat.le_trans (firsts_le _) (by rw [signsB_len]; exact fb.eight)
  st := fun x hx => by
    obtain ⟨s, hs, rfl⟩ := List.mem_map.mp (mem_firsts.mp hx)
    have so := fb.st s hs
    refine ⟨by unfold signB; rw [List.length_map]; exact so.few, ?_, fun p hp => ?_, fun p hp => ?_⟩
    · unfold signB
      rw [List.map_map]
      exact so.rise
    · obtain ⟨q, hq, rfl⟩ := List.mem_map.mp hp
      exact so.msg q hq
    · obtain ⟨q, hq, rfl⟩ := List.mem_map.mp hp
      rw [h.stop]
      exact h.lt (so.to q hq)
theorem LeastB.hom {b : Book} {ks : List Nat} {m : Nat} (fb : FormB b) (h : LeastB b ks m) : Hom b (firsts (signsB b ks)) (fun s => ks.getD s 0) where
  zero := by
    have e := h.same h.stop
    have a := numOf_at (signsB_at (ks := ks) fb.one)
    rw [e] at a
    show ks.getD 0 0 = 0
    rw [getD_at a]
    exact idx_any (firsts_nd _) (firsts_head (signsB_at (ks := ks) fb.one))
  lt := fun s hs => by rw [h.stop]; exact h.lt hs
  mv := fun s hs => by
    have e := h.same h.stop
    have a := numOf_at (signsB_at (ks := ks) hs)
    rw [e] at a
    rw [getD_at a]
    exact mvs_of (numOf_get (signsB_at (ks := ks) hs))
theorem LeastB.ok {b : Book} {ks : List Nat} {m : Nat} (ob : OkB b) (h : LeastB b ks m) : OkB (firsts (signsB b ks)) where
  toFormB := h.form ob.toFormB
  reach := fun x hx => by
    have hm : x ∈ firsts ks := by rw [h.num]; exact List.mem_range.mpr (by rw [← h.stop]; exact hx)
    obtain ⟨s, hs⟩ := List.mem_iff_getElem?.mp (mem_firsts.mp hm)
    have hl : s < b.length := by rw [← h.len]; exact (List.getElem?_eq_some_iff.mp hs).1
    have := (h.hom ob.toFormB).down ob.toFormB (ob.reach s hl)
    rw [getD_at hs] at this
    exact this
end Nv
set_option linter.all false
namespace Nv
/-! ### least books are unique -/
/-- no two states have the same rows -/
def Red (c : Book) : Prop := ∀ R, Bis2 c c R → ∀ s t, s < c.length → t < c.length → R s t → s = t
/-- states with the same rows have one picture -/
def Crs (b : Book) (f : Nat → Nat) : Prop := ∀ R, Bis2 b b R → ∀ s t, s < b.length → t < b.length → R s t → f s = f t
/-- numbered as they are met -/
def Ord (c : Book) : Prop := ordB c = List.range c.length
section
variable {b c : Book} {f : Nat → Nat}
theorem Hom.at_ (h : Hom b c f) {s i : Nat} (hs : s < b.length) {q : Nat × Nat} (hq : (mvs c (f s))[i]? = some q) : ∃ p, (mvs b s)[i]? = some p ∧ q = (p.1, f p.2) := by
  rw [h.mv s hs, List.getElem?_map] at hq
  cases e : (mvs b s)[i]? with
  | none => rw [e] at hq; cases hq
  | some p => rw [e] at hq; exact ⟨p, rfl, (Option.some.inj hq).symm⟩
theorem Hom.to (h : Hom b c f) {s i : Nat} (hs : s < b.length) {p : Nat × Nat} (hp : (mvs b s)[i]? = some p) : (mvs c (f s))[i]? = some (p.1, f p.2) := by
  rw [h.mv s hs, List.getElem?_map, hp]
  rfl
theorem Hom.msgs (h : Hom b c f) {s : Nat} (hs : s < b.length) : (mvs c (f s)).map (·.1) = (mvs b s).map (·.1) := by
  rw [h.mv s hs, List.map_map]
  rfl
/-- a relation of pictures, drawn back -/
theorem Hom.back (fb : FormB b) (h : Hom b c f) {R : Nat → Nat → Prop} (hR : Bis2 c c R) : Bis2 b b fun s t => s < b.length ∧ t < b.length ∧ R (f s) (f t) := by
  rintro s t ⟨hs, ht, r⟩
  obtain ⟨e1, e2⟩ := hR _ _ r
  rw [h.msgs hs, h.msgs ht] at e1
  refine ⟨e1, fun i p q hp hq => ⟨fb.to (List.mem_of_getElem? hp), fb.to (List.mem_of_getElem? hq), ?_⟩⟩
  exact e2 i _ _ (h.to hs hp) (h.to ht hq)
theorem Hom.red (fb : FormB b) (oc : OkB c) (h : Hom b c f) (cr : Crs b f) : Red c := by
  intro R hR x y hx hy r
  obtain ⟨s, hs, rfl⟩ := h.onto fb oc hx
  obtain ⟨t, ht, rfl⟩ := h.onto fb oc hy
  exact cr _ (h.back fb hR) s t hs ht ⟨hs, ht, r⟩
/-- the graph of a way into another book -/
theorem Hom.graph (fb : FormB b) (h : Hom b c f) : Bis2 b c fun s t => s < b.length ∧ t = f s := by
  rintro s t ⟨hs, rfl⟩
  refine ⟨(h.msgs hs).symm, fun i p q hp hq => ?_⟩
  obtain ⟨p', hp', rfl⟩ := h.at_ hs hq
  rw [hp] at hp'
  cases hp'
  exact ⟨fb.to (List.mem_of_getElem? hp), rfl⟩
end
theorem Bis2.swap {b c : Book} {R : Nat → Nat → Prop} (h : Bis2 b c R) : Bis2 c b fun s t => R t s := fun s t r => ⟨(h t s r).1.symm, fun i p q hp hq => (h t s r).2 i q p hq hp⟩
theorem Bis2.comp {b c d : Book} {R S : Nat → Nat → Prop} (h : Bis2 b c R) (k : Bis2 c d S) : Bis2 b d fun s t => ∃ x, R s x ∧ S x t := by
  rintro s t ⟨x, r, u⟩
  obtain ⟨a1, a2⟩ := h s x r
  obtain ⟨b1, b2⟩ := k x t u
  refine ⟨a1.trans b1, fun i p q hp hq => ?_⟩
  have hl : i < (mvs c x).length := by
    have e := congrArg List.length a1
    rw [List.length_map, List.length_map] at e
    rw [← e]
    exact (List.getElem?_eq_some_iff.mp hp).1
  have hx : (mvs c x)[i]? = some (mvs c x)[i] := List.getElem?_eq_getElem hl
  exact ⟨_, a2 i p _ hp hx, b2 i _ q hx hq⟩
theorem Bis2.id (b : Book) : Bis2 b b fun s t => s = t := by
  rintro s t rfl
  exact ⟨rfl, fun i p q hp hq => by rw [hp] at hq; cases hq; rfl⟩
/-- what rows lead to on the other side -/
theorem Bis2.rch {b c : Book} {R : Nat → Nat → Prop} (fc : FormB c) (h : Bis2 b c R) (h0 : R 0 0) {s : Nat} (hs : Rch b s) : ∃ t, t < c.length ∧ R s t := by
  induction hs with
  | zero => exact ⟨0, fc.one, h0⟩
  | @step s p _ hp ih =>
    obtain ⟨t, ht, r⟩ := ih
    obtain ⟨e1, e2⟩ := h s t r
    obtain ⟨i, hi⟩ := List.mem_iff_getElem?.mp hp
    have hl : i < (mvs c t).length := by
      have e := congrArg List.length e1
      rw [List.length_map, List.length_map] at e
      rw [← e]
      exact (List.getElem?_eq_some_iff.mp hi).1
    have hq : (mvs c t)[i]? = some (mvs c t)[i] := List.getElem?_eq_getElem hl
    exact ⟨_, fc.to (List.getElem_mem hl), e2 i p _ hi hq⟩
/-- two reduced whole books with the same rows: a way from the one into the other, one to one -/
theorem bis_hom {b c : Book} {R : Nat → Nat → Prop} (ob : OkB b) (oc : OkB c) (rb : Red b) (rc : Red c) (h : Bis2 b c R) (h0 : R 0 0) : ∃ g, Hom b c g ∧ (∀ s t, s < b.length → t < b.length → g s = g t → s = t) ∧ ∀ s, s < b.length → R s (g s) := by
  have ex : ∀ s, ∃ t, s < b.length → t < c.length ∧ R s t := by
    intro s
    by_cases hs : s < b.length
    · obtain ⟨t, h1, h2⟩ := h.rch oc.toFormB h0 (ob.reach s hs)
      exact ⟨t, fun _ => ⟨h1, h2⟩⟩
    · exact ⟨0, fun z => absurd z hs⟩
  obtain ⟨g, hg⟩ := Classical.axiomOfChoice ex
  have un : ∀ {s t t'}, t < c.length → t' < c.length → R s t → R s t' → t = t' := fun ht ht' r r' => rc _ (h.swap.comp h) _ _ ht ht' ⟨_, r, r'⟩
  have inj : ∀ {s s' t}, s < b.length → s' < b.length → R s t → R s' t → s = s' := fun hs hs' r r' => rb _ (h.comp h.swap) _ _ hs hs' ⟨_, r, r'⟩
  refine ⟨g, ⟨?_, fun s hs => (hg s hs).1, fun s hs => ?_⟩, fun s t hs ht e => ?_, fun s hs => (hg s hs).2⟩
  · have z := hg 0 ob.one
    exact un z.1 oc.one z.2 h0
  · obtain ⟨ht, r⟩ := hg s hs
    obtain ⟨e1, e2⟩ := h s _ r
    have hl : (mvs b s).length = (mvs c (g s)).length := by
      have e := congrArg List.length e1
      rwa [List.length_map, List.length_map] at e
    refine List.ext_getElem? fun i => ?_
    rw [List.getElem?_map]
    by_cases hi : i < (mvs b s).length
    · have hp : (mvs b s)[i]? = some (mvs b s)[i] := List.getElem?_eq_getElem hi
      have hq : (mvs c (g s))[i]? = some ((mvs c (g s))[i]'(by omega)) := List.getElem?_eq_getElem (by omega)
      have em : (mvs b s)[i].1 = ((mvs c (g s))[i]'(by omega)).1 := by
        have a1 : ((mvs b s).map (·.1))[i]? = some (mvs b s)[i].1 := by rw [List.getElem?_map, hp]; rfl
        rw [e1, List.getElem?_map, hq] at a1
        exact (Option.some.inj a1).symm
      have r2 := e2 i _ _ hp hq
      have pb := ob.to (List.mem_of_getElem? hp)
      have qb := oc.to (List.mem_of_getElem? hq)
      have et := un qb (hg _ pb).1 r2 (hg _ pb).2
      rw [hp, hq]
      show some _ = some ((mvs b s)[i].1, g (mvs b s)[i].2)
      rw [em, ← et]
    · rw [List.getElem?_eq_none (by omega), List.getElem?_eq_none (by omega)]
      rfl
  · exact inj hs ht (hg s hs).2 (by rw [e]; exact (hg t ht).2)
theorem addS_map {g : Nat → Nat} {n : Nat} (inj : ∀ s t, s < n → t < n → g s = g t → s = t) : ∀ (ms : State) (F : List Nat), (∀ x ∈ F, x < n) → (∀ p ∈ ms, p.2 < n) → addS (F.map g) (ms.map fun p => (p.1, g p.2)) = (addS F ms).map g
  | [], _, _, _ => rfl
  | p :: r, F, hF, hm => by
    have hp := hm p (List.mem_cons_self ..)
    show addS (if g p.2 ∈ F.map g then F.map g else F.map g ++ [g p.2]) (r.map fun p => (p.1, g p.2)) = (addS (if p.2 ∈ F then F else F ++ [p.2]) r).map g
    by_cases e : p.2 ∈ F
    · rw [if_pos e, if_pos (List.mem_map.mpr ⟨_, e, rfl⟩)]
      exact addS_map inj r F hF fun q hq => hm q (List.mem_cons_of_mem _ hq)
    · have e2 : g p.2 ∉ F.map g := fun z => by
        obtain ⟨x, hx, ex⟩ := List.mem_map.mp z
        exact e (by rw [← inj x p.2 (hF x hx) hp ex]; exact hx)
      rw [if_neg e, if_neg e2]
      have := addS_map inj r (F ++ [p.2]) (fun x hx => by
        rcases List.mem_append.mp hx with hx | hx
        · exact hF x hx
        · rw [List.mem_singleton.mp hx]; exact hp) fun q hq => hm q (List.mem_cons_of_mem _ hq)
      rw [List.map_append] at this
      exact this
theorem addS_lt {n : Nat} : ∀ (ms : State) (F : List Nat), (∀ x ∈ F, x < n) → (∀ p ∈ ms, p.2 < n) → ∀ x ∈ addS F ms, x < n
  | [], _, hF, _ => hF
  | p :: r, F, hF, hm => by
    have hp := hm p (List.mem_cons_self ..)
    refine addS_lt r _ (fun x hx => ?_) fun q hq => hm q (List.mem_cons_of_mem _ hq)
    split at hx
    · exact hF x hx
    · rcases List.mem_append.mp hx with hx | hx
      · exact hF x hx
      · rw [List.mem_singleton.mp hx]; exact hp
theorem stB_lt {b : Book} (fb : FormB b) : ∀ i, ∀ x ∈ stB b i, x < b.length
  | 0, x, hx => by rw [List.mem_singleton.mp hx]; exact fb.one
  | i + 1, x, hx => by
    have ih := stB_lt fb i
    cases hs : (stB b i)[i]? with
    | none =>
      have : stB b (i + 1) = stB b i := stB_rest (List.getElem?_eq_none_iff.mp hs) 1
      rw [this] at hx
      exact ih x hx
    | some s =>
      rw [stB_step hs] at hx
      exact addS_lt _ _ ih (fun p hp => fb.to hp) x hx
theorem stB_map {b c : Book} {g : Nat → Nat} (fb : FormB b) (h : Hom b c g) (inj : ∀ s t, s < b.length → t < b.length → g s = g t → s = t) : ∀ i, stB c i = (stB b i).map g
  | 0 => by show [0] = [g 0]; rw [h.zero]
  | i + 1 => by
    have ih := stB_map fb h inj i
    cases hs : (stB b i)[i]? with
    | none =>
      have e1 : stB b (i + 1) = stB b i := stB_rest (List.getElem?_eq_none_iff.mp hs) 1
      have e2 : stB c (i + 1) = stB c i := stB_rest (by rw [ih, List.length_map]; exact List.getElem?_eq_none_iff.mp hs) 1
      rw [e1, e2, ih]
    | some s =>
      have hlt := stB_lt fb i s (List.mem_of_getElem? hs)
      have hs2 : (stB c i)[i]? = some (g s) := by rw [ih, List.getElem?_map, hs]; rfl
      rw [stB_step hs, stB_step hs2, h.mv s hlt, ih]
      exact addS_map inj _ _ (stB_lt fb i) fun p hp => fb.to hp
theorem uniq {b c : Book} {R : Nat → Nat → Prop} (ob : OkB b) (oc : OkB c) (rb : Red b) (rc : Red c) (qb : Ord b) (qc : Ord c) (h : Bis2 b c R) (h0 : R 0 0) : b = c := by
  obtain ⟨g, hg, inj, _⟩ := bis_hom ob oc rb rc h h0
  have fb := ob.toFormB
  have le1 : b.length ≤ c.length := by
    have nd : ((List.range b.length).map g).Nodup := List.pairwise_map.mpr (List.Pairwise.imp_of_mem (fun {x y} hx hy ne e => ne (inj x y (List.mem_range.mp hx) (List.mem_range.mp hy) e)) List.nodup_range)
    have := nodup_le (n := c.length) nd fun x hx => by
      obtain ⟨s, hs, rfl⟩ := List.mem_map.mp hx
      exact hg.lt s (List.mem_range.mp hs)
    rwa [List.length_map, List.length_range] at this
  have le2 : c.length ≤ b.length := by
    have := List.Nodup.length_le_of_subset (List.nodup_range (n := c.length)) (l₂ := (List.range b.length).map g) fun x hx => by
      obtain ⟨s, hs, e⟩ := hg.onto fb oc (List.mem_range.mp hx)
      exact List.mem_map.mpr ⟨s, List.mem_range.mpr hs, e⟩
    rwa [List.length_map, List.length_range, List.length_range] at this
  have len : b.length = c.length := by omega
  have em : List.range c.length = (List.range b.length).map g := by
    rw [← qc, ← qb]
    unfold ordB
    rw [← len]
    exact stB_map fb hg inj _
  have gid : ∀ s, s < b.length → g s = s := by
    intro s hs
    have e : (List.range c.length)[s]? = ((List.range b.length).map g)[s]? := by rw [em]
    rw [List.getElem?_range (by omega), List.getElem?_map, List.getElem?_range hs] at e
    exact (Option.some.inj e).symm
  refine List.ext_getElem? fun s => ?_
  by_cases hs : s < b.length
  · rw [mvs_lt hs, mvs_lt (by omega : s < c.length)]
    have := hg.mv s hs
    rw [gid s hs] at this
    rw [this]
    congr 1
    conv => lhs; rw [← List.map_id (mvs b s)]
    refine List.map_congr_left fun p hp => ?_
    show p = (p.1, g p.2)
    rw [gid p.2 (fb.to hp)]
  · rw [List.getElem?_eq_none (by omega), List.getElem?_eq_none (by omega)]
/-- what least_book gives -/
structure LstB (b c : Book) (f : Nat → Nat) : Prop where
  ok : OkB c
  hom : Hom b c f
  crs : Crs b f
  ord : Ord c
theorem LstB.red {b c : Book} {f : Nat → Nat} (fb : FormB b) (h : LstB b c f) : Red c := h.hom.red fb h.ok h.crs
theorem LeastB.lst {b : Book} {ks : List Nat} {m : Nat} (ob : OkB b) (h : LeastB b ks m) : LstB b (rename (firsts (signsB b ks)) (ordB (firsts (signsB b ks)))) fun s => (ordB (firsts (signsB b ks))).idxOf (ks.getD s 0) := by
  have fb := ob.toFormB
  have of := h.ok ob
  have mo := metO of.toFormB
  refine ⟨ren_okB of.toFormB, (h.hom fb).comp fb (ren_hom of mo.toMet), fun R hR s t hs ht r => ?_, ?_⟩
  · have := h.coarse R hR s t hs ht r
    show (ordB _).idxOf (ks.getD s 0) = (ordB _).idxOf (ks.getD t 0)
    rw [this]
  · unfold Ord
    rw [(ren_self mo).1, rename_len]
/-- two books with the same rows have one least book -/
theorem lst_same {b c b' c' : Book} {f g : Nat → Nat} {R : Nat → Nat → Prop} (ob : OkB b) (oc : OkB c) (h : LstB b b' f) (k : LstB c c' g) (hR : Bis2 b c R) (h0 : R 0 0) : b' = c' := by
  have fb := ob.toFormB
  have fc := oc.toFormB
  have B := ((h.hom.graph fb).swap.comp hR).comp (k.hom.graph fc)
  refine uniq h.ok k.ok (h.red fb) (k.red fc) h.ord k.ord B ⟨0, ⟨0, ⟨fb.one, h.hom.zero.symm⟩, h0⟩, fc.one, k.hom.zero.symm⟩
theorem lst_idem {b c c' : Book} {f g : Nat → Nat} (ob : OkB b) (h : LstB b c f) (k : LstB c c' g) : c' = c := by
  have fb := ob.toFormB
  exact (lst_same ob h.ok h k (h.hom.graph fb) ⟨fb.one, h.hom.zero.symm⟩).symm
end Nv
set_option linter.all false
namespace Nv
/-! ### pairs of states to which one row of both books comes -/
abbrev PIt := List Nat × Nat × Nat
def othF (o : State) (m : Nat) : Option (Nat × Nat) := o.find? fun q => decide (q.1 = m)
def pushP (Q : List PIt) (row : List Nat) (o : State) (p : Nat × Nat) : List PIt := match othF o p.1 with
  | some q => if (p.2, q.2) ∈ Q.map (·.2) then Q else Q ++ [(row ++ [p.1], p.2, q.2)]
  | none => Q
def pushQ (Q : List PIt) (row : List Nat) (o : State) (ms : State) : List PIt := ms.foldl (fun Q p => pushP Q row o p) Q
def qP (one two : Book) : Nat → List PIt
  | 0 => [([], 0, 0)]
  | d + 1 => match (qP one two d)[d]? with
    | some e => pushQ (qP one two d) e.1 (mvs two e.2.2) (mvs one e.2.1)
    | none => qP one two d
def metP (one two : Book) : List PIt := qP one two (one.length * two.length)
theorem othF_some {o : State} {m : Nat} {q : Nat × Nat} (h : othF o m = some q) : q ∈ o ∧ q.1 = m := ⟨List.mem_of_find?_eq_some h, by have := List.find?_some h; simpa using this⟩
theorem othF_none {o : State} {m : Nat} (h : othF o m = none) : m ∉ o.map (·.1) := fun z => by
  obtain ⟨q, hq, e⟩ := List.mem_map.mp z
  have := List.find?_eq_none.mp h q hq
  simp [e] at this
theorem othF_in {o : State} {m : Nat} : (othF o m).isSome = decide (m ∈ o.map (·.1)) := by
  cases h : othF o m with
  | none => rw [decide_eq_false (othF_none h)]; rfl
  | some q =>
    obtain ⟨h1, h2⟩ := othF_some h
    rw [decide_eq_true (List.mem_map.mpr ⟨q, h1, h2⟩)]
    rfl
structure PMt (one two : Book) (Q : List PIt) (d : Nat) : Prop where
  nd : (Q.map (·.2)).Nodup
  lt : ∀ e ∈ Q, e.2.1 < one.length ∧ e.2.2 < two.length
  head : Q[0]? = some ([], 0, 0)
  le : d ≤ Q.length
  row : ∀ e ∈ Q, e.1.length < Q.length
  few : ∀ e ∈ Q, ∀ m ∈ e.1, m ≤ 99
  cl : ∀ j e, j < d → Q[j]? = some e → ∀ p ∈ mvs one e.2.1, ∀ q, othF (mvs two e.2.2) p.1 = some q → (p.2, q.2) ∈ Q.map (·.2)
  from_ : ∀ R : Nat → Nat → Prop, R 0 0 → (∀ a b p q, R a b → p ∈ mvs one a → othF (mvs two b) p.1 = some q → R p.2 q.2) → ∀ e ∈ Q, R e.2.1 e.2.2
structure PIE (one two : Book) (Q : List PIt) (d : Nat) : Prop extends PMt one two Q d where
  eq : Q = qP one two d
structure PWE (one two : Book) (Q : List PIt) (d : Nat) (e : PIt) (k : Nat) : Prop extends PMt one two Q d where
  here : Q[d]? = some e
  at_ : (qP one two d)[d]? = some e
  eq : Q = pushQ (qP one two d) e.1 (mvs two e.2.2) ((mvs one e.2.1).take k)
  part : ∀ p ∈ (mvs one e.2.1).take k, ∀ q, othF (mvs two e.2.2) p.1 = some q → (p.2, q.2) ∈ Q.map (·.2)
section
variable {one two : Book} {Q : List PIt} {d : Nat} {e : PIt} {k : Nat}
theorem PIE.first (h1 : 1 ≤ one.length) (h2 : 1 ≤ two.length) : PIE one two [([], 0, 0)] 0 where
  nd := by simp
  lt := fun e he => by rw [List.mem_singleton.mp he]; exact ⟨h1, h2⟩
  head := rfl
  le := Nat.zero_le _
  row := fun e he => by rw [List.mem_singleton.mp he]; exact Nat.zero_lt_one
  few := fun e he m hm => by rw [List.mem_singleton.mp he] at hm; cases hm
  cl := fun j e hj => absurd hj (Nat.not_lt_zero _)
  from_ := fun R h0 _ e he => by rw [List.mem_singleton.mp he]; exact h0
  eq := rfl
theorem PMt.most (h : PMt one two Q d) : Q.length ≤ one.length * two.length := by
  have nd : (Q.map fun e => e.2.1 * two.length + e.2.2).Nodup := by
    have : (Q.map fun e => e.2.1 * two.length + e.2.2) = (Q.map (·.2)).map fun x => x.1 * two.length + x.2 := by rw [List.map_map]; rfl
    rw [this]
    refine List.pairwise_map.mpr (List.Pairwise.imp_of_mem (fun {x y} hx hy ne e => ne ?_) h.nd)
    obtain ⟨ex, hex, rfl⟩ := List.mem_map.mp hx
    obtain ⟨ey, hey, rfl⟩ := List.mem_map.mp hy
    have lx := (h.lt ex hex).2
    have ly := (h.lt ey hey).2
    have z : 0 < two.length := by omega
    have d1 : (ex.2.1 * two.length + ex.2.2) / two.length = ex.2.1 := by
      rw [Nat.mul_comm, Nat.mul_add_div z, Nat.div_eq_of_lt lx, Nat.add_zero]
    have d2 : (ey.2.1 * two.length + ey.2.2) / two.length = ey.2.1 := by
      rw [Nat.mul_comm, Nat.mul_add_div z, Nat.div_eq_of_lt ly, Nat.add_zero]
    have m1 : (ex.2.1 * two.length + ex.2.2) % two.length = ex.2.2 := by
      rw [Nat.mul_comm, Nat.mul_add_mod, Nat.mod_eq_of_lt lx]
    have m2 : (ey.2.1 * two.length + ey.2.2) % two.length = ey.2.2 := by
      rw [Nat.mul_comm, Nat.mul_add_mod, Nat.mod_eq_of_lt ly]
    have e' : ex.2.1 * two.length + ex.2.2 = ey.2.1 * two.length + ey.2.2 := e
    rw [e'] at d1 m1
    have e1 : ex.2.1 = ey.2.1 := by rw [← d1, d2]
    have e2 : ex.2.2 = ey.2.2 := by rw [← m1, m2]
    exact Prod.ext e1 e2
  have := nodup_le (n := one.length * two.length) nd fun x hx => by
    obtain ⟨e, he, rfl⟩ := List.mem_map.mp hx
    obtain ⟨l1, l2⟩ := h.lt e he
    have h3 : e.2.1 * two.length + two.length ≤ one.length * two.length := by
      rw [← Nat.succ_mul]
      exact Nat.mul_le_mul_right _ l1
    show e.2.1 * two.length + e.2.2 < one.length * two.length
    omega
  rwa [List.length_map] at this
theorem PIE.begin (h : PIE one two Q d) (he : Q[d]? = some e) : PWE one two Q d e 0 := { h.toPMt with
  here := he
  at_ := by rw [← h.eq]; exact he
  eq := by rw [List.take_zero]; exact h.eq
  part := fun p hp => by rw [List.take_zero] at hp; cases hp }
theorem pushQ_take {F : List PIt} {row : List Nat} {o ms : State} {p : Nat × Nat} (hp : ms[k]? = some p) : pushQ F row o (ms.take (k + 1)) = pushP (pushQ F row o (ms.take k)) row o p := by
  unfold pushQ
  rw [List.take_add_one, hp, List.foldl_append]
  rfl
/-- nothing new -/
theorem PWE.skip (h : PWE one two Q d e k) {p : Nat × Nat} (hp : (mvs one e.2.1)[k]? = some p) (hn : ∀ q, othF (mvs two e.2.2) p.1 = some q → (p.2, q.2) ∈ Q.map (·.2)) : PWE one two Q d e (k + 1) := { h with
  eq := by
    rw [pushQ_take hp, ← h.eq]
    unfold pushP
    cases ho : othF (mvs two e.2.2) p.1 with
    | none => rfl
    | some q => exact (if_pos (hn q ho)).symm
  part := fun x hx q hq => by
    rw [List.take_add_one, hp] at hx
    rcases List.mem_append.mp hx with hx | hx
    · exact h.part x hx q hq
    · have := List.mem_singleton.mp (show x ∈ [p] from hx)
      subst this
      exact hn q hq }
theorem PWE.push (fo : FormB one) (ft : FormB two) (h : PWE one two Q d e k) {p q : Nat × Nat} (hp : (mvs one e.2.1)[k]? = some p) (ho : othF (mvs two e.2.2) p.1 = some q) (hn : (p.2, q.2) ∉ Q.map (·.2)) : PWE one two (Q ++ [(e.1 ++ [p.1], p.2, q.2)]) d e (k + 1) := by
  have pm := List.mem_of_getElem? hp
  have qm := (othF_some ho).1
  have hd : d < Q.length := (List.getElem?_eq_some_iff.mp h.here).1
  have he := List.mem_of_getElem? h.here
  refine { nd := ?_, lt := fun x hx => ?_, head := ?_, le := ?_, row := fun x hx => ?_, few := fun x hx m hm => ?_, cl := fun j x hj hx y hy z hz => ?_, from_ := fun R h0 hs x hx => ?_, here := ?_, at_ := h.at_, eq := ?_, part := fun x hx z hz => ?_ }
  · rw [List.map_append]
    exact List.nodup_append.mpr ⟨h.nd, by simp, fun a ha b hb e2 => hn (by rw [show (p.2, q.2) = b from (List.mem_singleton.mp hb).symm, ← e2]; exact ha)⟩
  · rcases List.mem_append.mp hx with hx | hx
    · exact h.lt x hx
    · rw [List.mem_singleton.mp hx]
      show p.2 < one.length ∧ q.2 < two.length
      exact ⟨fo.to pm, ft.to qm⟩
  · rw [List.getElem?_append_left (by omega)]
    exact h.head
  · rw [List.length_append]; have := h.le; omega
  · rw [List.length_append, List.length_singleton]
    rcases List.mem_append.mp hx with hx | hx
    · have := h.row x hx; omega
    · rw [List.mem_singleton.mp hx]
      have := h.row e he
      show (e.1 ++ [p.1]).length < _
      rw [List.length_append, List.length_singleton]
      omega
  · rcases List.mem_append.mp hx with hx | hx
    · exact h.few x hx m hm
    · rw [List.mem_singleton.mp hx] at hm
      rcases List.mem_append.mp (show m ∈ e.1 ++ [p.1] from hm) with hm | hm
      · exact h.few e he m hm
      · rw [List.mem_singleton.mp hm]
        exact (fo.ok (h.lt e he).1).msg p pm
  · rw [List.getElem?_append_left (by omega)] at hx
    rw [List.map_append]
    exact List.mem_append_left _ (h.cl j x hj hx y hy z hz)
  · rcases List.mem_append.mp hx with hx | hx
    · exact h.from_ R h0 hs x hx
    · rw [List.mem_singleton.mp hx]
      exact hs _ _ p q (h.from_ R h0 hs e he) pm ho
  · rw [List.getElem?_append_left hd]
    exact h.here
  · rw [pushQ_take hp, ← h.eq]
    unfold pushP
    rw [ho]
    exact (if_neg hn).symm
  · rw [List.map_append]
    rw [List.take_add_one, hp] at hx
    rcases List.mem_append.mp hx with hx | hx
    · exact List.mem_append_left _ (h.part x hx z hz)
    · have := List.mem_singleton.mp (show x ∈ [p] from hx)
      subst this
      rw [ho] at hz
      cases hz
      exact List.mem_append_right _ (by simp)
theorem PWE.done (h : PWE one two Q d e k) (hk : (mvs one e.2.1).length ≤ k) : PIE one two Q (d + 1) := { h.toPMt with
  le := (List.getElem?_eq_some_iff.mp h.here).1
  cl := fun j x hj hx y hy z hz => by
    by_cases e2 : j < d
    · exact h.cl j x e2 hx y hy z hz
    · have : j = d := by omega
      subst this
      rw [h.here] at hx
      cases hx
      exact h.part y (by rw [List.take_of_length_le hk]; exact hy) z hz
  eq := by
    rw [h.eq, List.take_of_length_le hk]
    show _ = (match (qP one two d)[d]? with
      | some e => pushQ (qP one two d) e.1 (mvs two e.2.2) (mvs one e.2.1)
      | none => qP one two d)
    rw [h.at_] }
theorem qP_rest {i : Nat} (h : (qP one two i).length ≤ i) : ∀ k, qP one two (i + k) = qP one two i
  | 0 => rfl
  | k + 1 => by
    have ih := qP_rest h k
    show (match (qP one two (i + k))[i + k]? with
      | some e => pushQ (qP one two (i + k)) e.1 (mvs two e.2.2) (mvs one e.2.1)
      | none => qP one two (i + k)) = _
    rw [ih, List.getElem?_eq_none (by omega)]
theorem PIE.met (h : PIE one two Q d) (hd : d = Q.length) : Q = metP one two ∧ PMt one two Q Q.length := by
  have m := h.most
  obtain ⟨k, hk⟩ := Nat.le.dest (show d ≤ one.length * two.length by omega)
  refine ⟨?_, by rw [← hd]; exact h.toPMt⟩
  unfold metP
  rw [← hk, qP_rest (by rw [← h.eq]; omega)]
  exact h.eq
end
/-- all is processed at last -/
theorem metP_all {one two : Book} (fo : FormB one) (ft : FormB two) : PMt one two (metP one two) (metP one two).length := by
  have row : ∀ {Q : List PIt} {d : Nat} {e : PIt}, PIE one two Q d → Q[d]? = some e → ∀ k, k ≤ (mvs one e.2.1).length → ∃ Q', PWE one two Q' d e k := by
    intro Q d e h he k
    induction k with
    | zero => exact fun _ => ⟨Q, h.begin he⟩
    | succ k ih =>
      intro hk
      obtain ⟨Q', w⟩ := ih (by omega)
      have hp : (mvs one e.2.1)[k]? = some (mvs one e.2.1)[k] := List.getElem?_eq_getElem (by omega)
      generalize (mvs one e.2.1)[k] = p at hp
      cases ho : othF (mvs two e.2.2) p.1 with
      | none => exact ⟨Q', w.skip hp fun q hq => by rw [ho] at hq; cases hq⟩
      | some q =>
        by_cases hin : (p.2, q.2) ∈ Q'.map (·.2)
        · exact ⟨Q', w.skip hp fun q' hq => by rw [ho] at hq; cases hq; exact hin⟩
        · exact ⟨_, w.push fo ft hp ho hin⟩
  have all : ∀ n, ∃ d Q, PIE one two Q d ∧ (d = Q.length ∨ d = n) := by
    intro n
    induction n with
    | zero => exact ⟨0, _, .first fo.one ft.one, .inr rfl⟩
    | succ n ih =>
      obtain ⟨d, Q, h, e⟩ := ih
      by_cases hd : d < Q.length
      · have hs : Q[d]? = some Q[d] := List.getElem?_eq_getElem hd
        obtain ⟨Q', w⟩ := row h hs _ (Nat.le_refl _)
        refine ⟨d + 1, Q', w.done (Nat.le_refl _), .inr ?_⟩
        omega
      · have := h.le
        exact ⟨d, Q, h, .inl (by omega)⟩
  obtain ⟨d, Q, h, e⟩ := all (one.length * two.length)
  have m := h.most
  have le := h.le
  obtain ⟨e1, e2⟩ := h.met (by omega)
  rw [e1] at e2
  exact e2
/-! ### where two books part -/
def singleM (x y : State) : List Nat := (x.map (·.1)).filter (fun m => !decide (m ∈ y.map (·.1))) ++ (y.map (·.1)).filter (fun m => !decide (m ∈ x.map (·.1)))
def minL : List Nat → Nat
  | [] => 0
  | x :: r => r.foldl min x
def partE (one two : Book) (e : PIt) : Option (List Nat) := if singleM (mvs one e.2.1) (mvs two e.2.2) = [] then none else some (e.1 ++ [minL (singleM (mvs one e.2.1) (mvs two e.2.2))])
def partP (one two : Book) : Option (List Nat) := (metP one two).findSome? (partE one two)
def withinE (one two : Book) (e : PIt) : Bool := (mvs one e.2.1).all fun p => (othF (mvs two e.2.2) p.1).isSome
def withinP (one two : Book) : Bool := (metP one two).all (withinE one two)
theorem single_nil {x y : State} (hx : (x.map (·.1)).Pairwise (· < ·)) (hy : (y.map (·.1)).Pairwise (· < ·)) : singleM x y = [] ↔ x.map (·.1) = y.map (·.1) := by
  unfold singleM
  rw [List.append_eq_nil_iff, List.filter_eq_nil_iff, List.filter_eq_nil_iff]
  constructor
  · rintro ⟨h1, h2⟩
    refine srt_eq hx hy fun k => ⟨fun hk => ?_, fun hk => ?_⟩
    · have := h1 k hk
      simpa using this
    · have := h2 k hk
      simpa using this
  · intro e
    exact ⟨fun m hm => by rw [← e]; simpa using hm, fun m hm => by rw [e]; simpa using hm⟩
theorem othF_at {x : State} (hx : (x.map (·.1)).Pairwise (· < ·)) {i : Nat} {q : Nat × Nat} (h : x[i]? = some q) : othF x q.1 = some q := by
  cases ho : othF x q.1 with
  | none => exact absurd (List.mem_map.mpr ⟨q, List.mem_of_getElem? h, rfl⟩) (othF_none ho)
  | some r =>
    obtain ⟨h1, h2⟩ := othF_some ho
    obtain ⟨j, hj⟩ := List.mem_iff_getElem?.mp h1
    have a1 : (x.map (·.1))[i]? = some q.1 := by rw [List.getElem?_map, h]; rfl
    have a2 : (x.map (·.1))[j]? = some q.1 := by rw [List.getElem?_map, hj]; exact congrArg some h2
    have nd := srt_nodup hx
    have : i = j := (List.getElem?_inj (List.getElem?_eq_some_iff.mp a1).1 nd).mp (a1.trans a2.symm)
    subst this
    rw [h] at hj
    exact hj.symm
theorem part_none {one two : Book} : partP one two = none ↔ ∀ e ∈ metP one two, singleM (mvs one e.2.1) (mvs two e.2.2) = [] := by
  unfold partP
  rw [List.findSome?_eq_none_iff]
  refine forall_congr' fun e => forall_congr' fun he => ?_
  unfold partE
  by_cases h : singleM (mvs one e.2.1) (mvs two e.2.2) = []
  · rw [if_pos h]; exact ⟨fun _ => h, fun _ => rfl⟩
  · rw [if_neg h]; exact ⟨fun z => (nomatch z), fun z => absurd z h⟩
theorem FormB.rise {b : Book} (fb : FormB b) (s : Nat) : ((mvs b s).map (·.1)).Pairwise (· < ·) := by
  by_cases hs : s < b.length
  · exact (fb.ok hs).rise
  · rw [mvs_out (by omega)]; exact .nil
/-- no difference: the same rows -/
theorem part_bis {one two : Book} (fo : FormB one) (ft : FormB two) (h : partP one two = none) : Bis2 one two fun a b => (a, b) ∈ (metP one two).map (·.2) := by
  have all := metP_all fo ft
  have hn := part_none.mp h
  intro a b hab
  obtain ⟨e, he, ee⟩ := List.mem_map.mp hab
  have e1 : e.2.1 = a := congrArg Prod.fst ee
  have e2 : e.2.2 = b := congrArg Prod.snd ee
  have hs := (single_nil (fo.rise e.2.1) (ft.rise e.2.2)).mp (hn e he)
  rw [e1, e2] at hs
  refine ⟨hs, fun i p q hp hq => ?_⟩
  obtain ⟨j, hj⟩ := List.mem_iff_getElem?.mp he
  have em : p.1 = q.1 := by
    have a1 : ((mvs one a).map (·.1))[i]? = some p.1 := by rw [List.getElem?_map, hp]; rfl
    rw [hs, List.getElem?_map, hq] at a1
    exact (Option.some.inj a1).symm
  refine all.cl j e (List.getElem?_eq_some_iff.mp hj).1 hj p (by rw [e1]; exact List.mem_of_getElem? hp) q ?_
  rw [e2, em]
  exact othF_at (ft.rise b) hq
/-- the same rows: no difference -/
theorem bis_part {one two : Book} (fo : FormB one) (ft : FormB two) {R : Nat → Nat → Prop} (hR : Bis2 one two R) (h0 : R 0 0) : partP one two = none := by
  refine part_none.mpr fun e he => ?_
  have r : R e.2.1 e.2.2 := (metP_all fo ft).from_ R h0 (fun a b p q r hp hq => by
    obtain ⟨e1, e2⟩ := hR a b r
    obtain ⟨i, hi⟩ := List.mem_iff_getElem?.mp hp
    have hl : i < (mvs two b).length := by
      have e := congrArg List.length e1
      rw [List.length_map, List.length_map] at e
      rw [← e]
      exact (List.getElem?_eq_some_iff.mp hi).1
    have hq' : (mvs two b)[i]? = some (mvs two b)[i] := List.getElem?_eq_getElem hl
    have em : p.1 = (mvs two b)[i].1 := by
      have a1 : ((mvs one a).map (·.1))[i]? = some p.1 := by rw [List.getElem?_map, hi]; rfl
      rw [e1, List.getElem?_map, hq'] at a1
      exact (Option.some.inj a1).symm
    have := othF_at (ft.rise b) hq'
    rw [← em, hq] at this
    rw [Option.some.inj this]
    exact e2 i p _ hi hq') e he
  exact (single_nil (fo.rise _) (ft.rise _)).mpr (hR _ _ r).1
/-- least books are one just if nothing parts the books -/
theorem lst_part {one two b c : Book} {f g : Nat → Nat} (oo : OkB one) (ot : OkB two) (h : LstB one b f) (k : LstB two c g) : b = c ↔ partP one two = none := by
  have fo := oo.toFormB
  have ft := ot.toFormB
  constructor
  · rintro rfl
    exact bis_part fo ft ((h.hom.graph fo).comp (k.hom.graph ft).swap) ⟨0, ⟨fo.one, h.hom.zero.symm⟩, ft.one, k.hom.zero.symm⟩
  · intro e
    exact lst_same oo ot h k (part_bis fo ft e) (List.mem_map.mpr ⟨_, List.mem_of_getElem? (metP_all fo ft).head, rfl⟩)
theorem part_swap {one two : Book} (fo : FormB one) (ft : FormB two) : partP two one = none ↔ partP one two = none := by
  have go : ∀ {one two : Book}, FormB one → FormB two → partP one two = none → partP two one = none := fun fo ft h =>
    bis_part ft fo (part_bis fo ft h).swap (List.mem_map.mpr ⟨_, List.mem_of_getElem? (metP_all fo ft).head, rfl⟩)
  exact ⟨go ft fo, go fo ft⟩
end Nv
set_option linter.all false
namespace Nv
/-! ### messages of two states, one behind another -/
def oneOf (x y : State) (m : Nat) : Bool := decide (m ∈ x.map (·.1)) != decide (m ∈ y.map (·.1))
def moreOf (x y : State) (m : Nat) : Bool := decide (m ∈ x.map (·.1)) && !decide (m ∈ y.map (·.1))
theorem single_mem {x y : State} {m : Nat} : m ∈ singleM x y ↔ oneOf x y m = true := by
  unfold singleM oneOf
  rw [List.mem_append, List.mem_filter, List.mem_filter]
  by_cases h1 : m ∈ x.map (·.1) <;> by_cases h2 : m ∈ y.map (·.1) <;> simp [h1, h2]
structure UOf (x y : State) (U : List Nat) : Prop where
  srt : U.Pairwise (· < ·)
  mem : ∀ m, m ∈ U ↔ m ∈ x.map (·.1) ∨ m ∈ y.map (·.1)
theorem find_least {U : List Nat} (h : U.Pairwise (· < ·)) {p : Nat → Bool} {m : Nat} (hf : U.find? p = some m) : m ∈ U ∧ p m = true ∧ ∀ y ∈ U, p y = true → m ≤ y := by
  refine ⟨List.mem_of_find?_eq_some hf, List.find?_some hf, fun y hy hp => ?_⟩
  induction U with
  | nil => cases hy
  | cons x r ih =>
    obtain ⟨h1, h2⟩ := List.pairwise_cons.mp h
    rw [List.find?_cons] at hf
    by_cases c : p x = true
    · rw [c] at hf
      cases hf
      rcases List.mem_cons.mp hy with rfl | hy
      · exact Nat.le_refl _
      · exact Nat.le_of_lt (h1 y hy)
    · rw [Bool.not_eq_true] at c
      rw [c] at hf
      rcases List.mem_cons.mp hy with rfl | hy
      · rw [c] at hp; cases hp
      · exact ih h2 hf hy
theorem UOf.part {one two : Book} {e : PIt} {U : List Nat} (h : UOf (mvs one e.2.1) (mvs two e.2.2) U) (eqm : ∀ {l : List Nat} {m : Nat}, m ∈ l → (∀ y ∈ l, m ≤ y) → m = minL l) :
    partE one two e = (U.find? (oneOf (mvs one e.2.1) (mvs two e.2.2))).map fun m => e.1 ++ [m] := by
  have inU : ∀ {m}, m ∈ singleM (mvs one e.2.1) (mvs two e.2.2) → m ∈ U := by
    intro m hm
    rw [h.mem]
    unfold singleM at hm
    rcases List.mem_append.mp hm with hm | hm
    · exact .inl (List.mem_filter.mp hm).1
    · exact .inr (List.mem_filter.mp hm).1
  unfold partE
  cases hf : U.find? (oneOf (mvs one e.2.1) (mvs two e.2.2)) with
  | none =>
    have : singleM (mvs one e.2.1) (mvs two e.2.2) = [] := by
      refine List.eq_nil_iff_forall_not_mem.mpr fun m hm => ?_
      have := List.find?_eq_none.mp hf m (inU hm)
      exact this (single_mem.mp hm)
    rw [if_pos this]
    rfl
  | some m =>
    obtain ⟨h1, h2, h3⟩ := find_least h.srt hf
    have hm := single_mem.mpr h2
    rw [if_neg (fun z => by rw [z] at hm; cases hm), ← eqm hm fun y hy => h3 y (inU hy) (single_mem.mp hy)]
    rfl
theorem UOf.within {one two : Book} {e : PIt} {U : List Nat} (h : UOf (mvs one e.2.1) (mvs two e.2.2) U) : withinE one two e = !(U.any (moreOf (mvs one e.2.1) (mvs two e.2.2))) := by
  rw [Bool.eq_iff_iff]
  unfold withinE
  rw [List.all_eq_true, Bool.not_eq_true', List.any_eq_false]
  constructor
  · intro z m hm hp
    unfold moreOf at hp
    rw [Bool.and_eq_true, decide_eq_true_eq, Bool.not_eq_true', decide_eq_false_iff_not] at hp
    obtain ⟨p, hpm, rfl⟩ := List.mem_map.mp hp.1
    have := z p hpm
    rw [othF_in] at this
    exact hp.2 (of_decide_eq_true this)
  · intro z p hp
    rw [othF_in, decide_eq_true_eq]
    have hm : p.1 ∈ (mvs one e.2.1).map (·.1) := List.mem_map.mpr ⟨p, hp, rfl⟩
    have := z p.1 ((h.mem _).mpr (.inl hm))
    unfold moreOf at this
    rw [decide_eq_true hm, Bool.true_and, Bool.not_eq_true, Bool.not_eq_false', decide_eq_true_eq] at this
    exact this
/-- the first k moves are those whose messages came -/
structure Cnt (ms : State) (U : List Nat) (j k : Nat) : Prop where
  le : k ≤ ms.length
  iff : ∀ i p, ms[i]? = some p → (i < k ↔ p.1 ∈ U.take j)
theorem Cnt.first {ms : State} {U : List Nat} : Cnt ms U 0 0 := ⟨Nat.zero_le _, fun i p _ => by rw [List.take_zero]; exact ⟨fun h => absurd h (Nat.not_lt_zero _), fun h => nomatch h⟩⟩
theorem take_step {U : List Nat} {j m : Nat} (hm : U[j]? = some m) {x : Nat} : x ∈ U.take (j + 1) ↔ x ∈ U.take j ∨ x = m := by
  rw [List.take_add_one, hm, List.mem_append]
  exact or_congr Iff.rfl ⟨fun h => List.mem_singleton.mp h, fun h => by rw [h]; exact List.mem_singleton.mpr rfl⟩
theorem take_lt {U : List Nat} (hU : U.Pairwise (· < ·)) {j m : Nat} (hm : U[j]? = some m) {x : Nat} : x ∈ U.take j ↔ x ∈ U ∧ x < m := by
  obtain ⟨hj, em⟩ := List.getElem?_eq_some_iff.mp hm
  have pw := List.pairwise_iff_getElem.mp hU
  constructor
  · intro h
    obtain ⟨i, hi, e⟩ := List.mem_iff_getElem.mp h
    rw [List.length_take] at hi
    rw [List.getElem_take] at e
    refine ⟨List.mem_of_mem_take h, ?_⟩
    rw [← e, ← em]
    exact pw i j (by omega) hj (by omega)
  · rintro ⟨h, hlt⟩
    obtain ⟨i, hi, e⟩ := List.mem_iff_getElem.mp h
    have hij : i < j := by
      by_cases c : i < j
      · exact c
      · exfalso
        by_cases c2 : i = j
        · subst c2
          rw [em] at e
          omega
        · have := pw j i hj hi (by omega)
          rw [em, e] at this
          omega
    exact List.mem_iff_getElem.mpr ⟨i, by rw [List.length_take]; omega, by rw [List.getElem_take]; exact e⟩
theorem Cnt.skip {ms : State} {U : List Nat} {j k m : Nat} (h : Cnt ms U j k) (hm : U[j]? = some m) (hn : m ∉ ms.map (·.1)) : Cnt ms U (j + 1) k :=
  ⟨h.le, fun i p hp => by
    rw [h.iff i p hp, take_step hm]
    exact ⟨.inl, fun z => z.resolve_right fun e => hn (List.mem_map.mpr ⟨p, List.mem_of_getElem? hp, e⟩)⟩⟩
theorem Cnt.here {ms : State} {U : List Nat} {j k m : Nat} (h : Cnt ms U j k) (hr : (ms.map (·.1)).Pairwise (· < ·)) (hU : U.Pairwise (· < ·)) (hin : ∀ p ∈ ms, p.1 ∈ U) (hm : U[j]? = some m) (hx : m ∈ ms.map (·.1)) :
    ∃ p, ms[k]? = some p ∧ p.1 = m ∧ Cnt ms U (j + 1) (k + 1) := by
  obtain ⟨p, hp, e⟩ := List.mem_map.mp hx
  obtain ⟨i0, hi0⟩ := List.mem_iff_getElem?.mp hp
  have at_ : ∀ {i : Nat} {q : Nat × Nat}, ms[i]? = some q → (ms.map (·.1))[i]? = some q.1 := fun h => by rw [List.getElem?_map, h]; rfl
  have inj : ∀ {i i' : Nat} {q q' : Nat × Nat}, ms[i]? = some q → ms[i']? = some q' → q.1 = q'.1 → i = i' := fun h1 h2 e => by
    have a1 := at_ h1
    rw [e] at a1
    exact (List.getElem?_inj (List.getElem?_eq_some_iff.mp a1).1 (srt_nodup hr)).mp (a1.trans (at_ h2).symm)
  have k1 : ¬ i0 < k := fun z => by
    have := (h.iff i0 p hi0).mp z
    rw [e, take_lt hU hm] at this
    exact Nat.lt_irrefl _ this.2
  have hl0 := (List.getElem?_eq_some_iff.mp hi0).1
  have k2 : ¬ k < i0 := fun z => by
    have hk : ms[k]? = some (ms[k]'(by omega)) := List.getElem?_eq_getElem (by omega)
    have lt : (ms[k]'(by omega)).1 < p.1 := by
      obtain ⟨l1, g1⟩ := List.getElem?_eq_some_iff.mp (at_ hk)
      obtain ⟨l2, g2⟩ := List.getElem?_eq_some_iff.mp (at_ hi0)
      rw [← g1, ← g2]
      exact List.pairwise_iff_getElem.mp hr k i0 l1 l2 z
    have := (h.iff k _ hk).mpr ((take_lt hU hm).mpr ⟨hin _ (List.mem_of_getElem? hk), by rw [← e]; exact lt⟩)
    exact Nat.lt_irrefl _ this
  have ek : i0 = k := by omega
  subst ek
  refine ⟨p, hi0, e, ⟨by omega, fun i q hq => ?_⟩⟩
  rw [take_step hm, ← h.iff i q hq]
  constructor
  · intro z
    by_cases c : i < i0
    · exact .inl c
    · have : i = i0 := by omega
      subst this
      rw [hi0] at hq
      cases hq
      exact .inr e
  · rintro (z | z)
    · omega
    · have := inj hq hi0 (by rw [z, e])
      omega
theorem Cnt.all {ms : State} {U : List Nat} {k : Nat} (h : Cnt ms U U.length k) (hin : ∀ p ∈ ms, p.1 ∈ U) : ms.length ≤ k := by
  by_cases c : k < ms.length
  · exfalso
    have hk : ms[k]? = some ms[k] := List.getElem?_eq_getElem c
    have := (h.iff k _ hk).mpr (by rw [List.take_length]; exact hin _ (List.mem_of_getElem? hk))
    exact Nat.lt_irrefl _ this
  · omega
theorem find_step {U : List Nat} {j m : Nat} (hm : U[j]? = some m) (p : Nat → Bool) : (U.take (j + 1)).find? p = ((U.take j).find? p).or (if p m = true then some m else none) := by
  rw [List.take_add_one, hm, List.find?_append]
  congr 1
  show List.find? p [m] = _
  rw [List.find?_cons]
  cases p m <;> rfl
theorem any_step {U : List Nat} {j m : Nat} (hm : U[j]? = some m) (p : Nat → Bool) : (U.take (j + 1)).any p = ((U.take j).any p || p m) := by
  rw [List.take_add_one, hm, List.any_append]
  congr 1
  show List.any [m] p = _
  simp
end Nv
set_option linter.all false
namespace Nv
/-! ### a table of unlike states, filled turn by turn -/
def kB (b : Book) : Nat → List Nat
  | 0 => List.replicate b.length 0
  | r + 1 => numOf (signsB b (kB b r))
def mB (b : Book) : Nat → Nat
  | 0 => 1
  | r + 1 => (firsts (signsB b (kB b r))).length
theorem kB_inv {b : Book} (fb : FormB b) : ∀ r, KInv b (kB b r) (mB b r)
  | 0 => .first fb.one
  | r + 1 => (kB_inv fb r).next fb
theorem kB_eq {b : Book} (r : Nat) {s t : Nat} (hs : s < b.length) (ht : t < b.length) : (kB b (r + 1)).getD s 0 = (kB b (r + 1)).getD t 0 ↔ signB (kB b r) (mvs b s) = signB (kB b r) (mvs b t) := by
  have a1 := numOf_at (signsB_at (ks := kB b r) hs)
  have a2 := numOf_at (signsB_at (ks := kB b r) ht)
  have e1 : (kB b (r + 1)).getD s 0 = _ := getD_at a1
  have e2 : (kB b (r + 1)).getD t 0 = _ := getD_at a2
  rw [e1, e2]
  constructor
  · intro e
    have g1 := numOf_get (signsB_at (ks := kB b r) hs)
    have g2 := numOf_get (signsB_at (ks := kB b r) ht)
    rw [e, g2] at g1
    exact (Option.some.inj g1).symm
  · intro e
    rw [e]
/-- unlike behind r turns -/
def unB (b : Book) (r : Nat) (s t : Nat) : Bool := decide ((kB b (r + 1)).getD s 0 ≠ (kB b (r + 1)).getD t 0)
theorem sign_iff {ks : List Nat} : ∀ {x y : State}, signB ks x = signB ks y ↔ x.map (·.1) = y.map (·.1) ∧ ∀ pq ∈ x.zip y, ks.getD pq.1.2 0 = ks.getD pq.2.2 0
  | [], [] => by simp [signB]
  | [], _ :: _ => by simp [signB]
  | _ :: _, [] => by simp [signB]
  | p :: x, q :: y => by
    have ih := sign_iff (ks := ks) (x := x) (y := y)
    have e1 : signB ks (p :: x) = (p.1, ks.getD p.2 0) :: signB ks x := rfl
    have e2 : signB ks (q :: y) = (q.1, ks.getD q.2 0) :: signB ks y := rfl
    rw [e1, e2, List.map_cons, List.map_cons, List.zip_cons_cons, List.cons.injEq, List.cons.injEq, ih, Prod.mk.injEq, List.forall_mem_cons]
    constructor
    · rintro ⟨⟨h1, h2⟩, h3, h4⟩
      exact ⟨⟨h1, h3⟩, h2, h4⟩
    · rintro ⟨⟨h1, h3⟩, h2, h4⟩
      exact ⟨⟨h1, h2⟩, h3, h4⟩
theorem unB_zero {b : Book} (fb : FormB b) {s t : Nat} (hs : s < b.length) (ht : t < b.length) : unB b 0 s t = decide ((mvs b s).map (·.1) ≠ (mvs b t).map (·.1)) := by
  unfold unB
  refine decide_eq_decide.mpr (not_congr ?_)
  rw [kB_eq 0 hs ht, sign_iff]
  have z : ∀ x, x < b.length → (kB b 0).getD x 0 = 0 := fun x hx => by
    show (List.replicate b.length 0).getD x 0 = 0
    rw [List.getD_eq_getElem?_getD, List.getElem?_replicate, if_pos hx]
    rfl
  refine ⟨fun h => h.1, fun h => ⟨h, fun pq hpq => ?_⟩⟩
  have m1 := fb.to (List.of_mem_zip (show (pq.1, pq.2) ∈ (mvs b s).zip (mvs b t) from hpq)).1
  have m2 := fb.to (List.of_mem_zip (show (pq.1, pq.2) ∈ (mvs b s).zip (mvs b t) from hpq)).2
  rw [z _ m1, z _ m2]
theorem unB_step {b : Book} (fb : FormB b) (r : Nat) {s t : Nat} (hs : s < b.length) (ht : t < b.length) : unB b (r + 1) s t = (unB b r s t || ((mvs b s).zip (mvs b t)).any fun pq => unB b r pq.1.2 pq.2.2) := by
  have e1 := kB_eq (b := b) (r + 1) hs ht
  have e0 := kB_eq (b := b) r hs ht
  rw [sign_iff] at e1
  cases h : unB b r s t with
  | true =>
    rw [Bool.true_or]
    unfold unB at h ⊢
    have h := of_decide_eq_true h
    refine decide_eq_true fun z => h ?_
    have := e1.mp z
    exact (kB_inv fb (r + 1)).ref s t hs ht (sign_iff.mpr this)
  | false =>
    rw [Bool.false_or]
    unfold unB at h
    have h := of_decide_eq_false h
    have h : (kB b (r + 1)).getD s 0 = (kB b (r + 1)).getD t 0 := Classical.byContradiction h
    have hf := (sign_iff.mp (e0.mp h)).1
    rw [Bool.eq_iff_iff, List.any_eq_true]
    unfold unB
    rw [decide_eq_true_eq]
    constructor
    · intro z
      refine Classical.byContradiction fun no => z (e1.mpr ⟨hf, fun pq hpq => ?_⟩)
      refine Classical.byContradiction fun ne => no ⟨pq, hpq, decide_eq_true ne⟩
    · rintro ⟨pq, hpq, hu⟩ z
      exact of_decide_eq_true hu ((e1.mp z).2 pq hpq)
theorem kB_const {b : Book} (fb : FormB b) {r : Nat} (h : mB b (r + 1) = mB b r) : ∀ k, kB b (r + k) = kB b r ∧ mB b (r + k) = mB b r
  | 0 => ⟨rfl, rfl⟩
  | k + 1 => by
    obtain ⟨h1, h2⟩ := kB_const fb h k
    have st : kB b (r + 1) = kB b r := (kB_inv fb r).same h
    refine ⟨?_, ?_⟩
    · show numOf (signsB b (kB b (r + k))) = _
      rw [h1]
      exact st
    · show (firsts (signsB b (kB b (r + k)))).length = _
      rw [h1]
      exact h
theorem kB_least {b : Book} (fb : FormB b) : ∃ m, LeastB b (kB b (b.length + 1)) m := by
  have ex : ∃ r, r ≤ b.length ∧ mB b (r + 1) = mB b r := by
    refine Classical.byContradiction fun no => ?_
    have grow : ∀ r, r ≤ b.length + 1 → r + 1 ≤ mB b r := by
      intro r
      induction r with
      | zero => exact fun _ => Nat.le_refl _
      | succ r ih =>
        intro hr
        have h1 := ih (by omega)
        have h2 : mB b r ≤ mB b (r + 1) := (kB_inv fb r).ge
        have h3 : mB b (r + 1) ≠ mB b r := fun e => no ⟨r, by omega, e⟩
        omega
    have h1 := grow (b.length + 1) (Nat.le_refl _)
    have h2 : mB b (b.length + 1) ≤ b.length := by
      have := firsts_le (signsB b (kB b b.length))
      rwa [signsB_len] at this
    omega
  obtain ⟨r, hr, e⟩ := ex
  obtain ⟨k, hk⟩ := Nat.le.dest (show r ≤ b.length + 1 by omega)
  obtain ⟨h1, h2⟩ := kB_const fb e k
  rw [← hk, h1]
  exact ⟨mB b r, { kB_inv fb r with stop := e }⟩
/-- unlike at last: parted by the least book -/
theorem unB_last {b c : Book} {f : Nat → Nat} (fb : FormB b) (h : LstB b c f) {s t : Nat} (hs : s < b.length) (ht : t < b.length) : unB b b.length s t = decide (f s ≠ f t) := by
  obtain ⟨m, lb⟩ := kB_least fb
  unfold unB
  refine decide_eq_decide.mpr (not_congr ⟨fun e => ?_, fun e => ?_⟩)
  · exact h.crs _ ((lb.hom fb).back fb (Bis2.id _)) s t hs ht ⟨hs, ht, e⟩
  · exact lb.coarse _ (h.hom.back fb (Bis2.id _)) s t hs ht ⟨hs, ht, e⟩
theorem count_first (f : Nat → Nat) : ∀ n, ((List.range n).filter fun a => !((List.range a).any fun b => decide (f b = f a))).length = (firsts ((List.range n).map f)).length
  | 0 => rfl
  | n + 1 => by
    have ih := count_first f n
    rw [List.range_succ, List.filter_append, List.map_append, List.length_append, ih]
    show _ = (firsts ((List.range n).map f ++ [f n])).length
    rw [firsts_snoc]
    have hm : (List.range n).any (fun b => decide (f b = f n)) = decide (f n ∈ firsts ((List.range n).map f)) := by
      rw [Bool.eq_iff_iff, List.any_eq_true, decide_eq_true_eq, mem_firsts, List.mem_map]
      exact ⟨fun ⟨x, hx, e⟩ => ⟨x, hx, of_decide_eq_true e⟩, fun ⟨x, hx, e⟩ => ⟨x, hx, decide_eq_true e⟩⟩
    rw [List.filter_cons, hm]
    by_cases c : f n ∈ firsts ((List.range n).map f)
    · rw [decide_eq_true c, if_pos c]
      rfl
    · rw [decide_eq_false c, if_neg c, List.length_append]
      rfl
theorem count_least {b c : Book} {f : Nat → Nat} (fb : FormB b) (h : LstB b c f) : ((List.range b.length).filter fun a => !((List.range a).any fun s => decide (f s = f a))).length = c.length := by
  rw [count_first]
  have le1 := nodup_le (n := c.length) (firsts_nd ((List.range b.length).map f)) fun x hx => by
    obtain ⟨s, hs, rfl⟩ := List.mem_map.mp (mem_firsts.mp hx)
    exact h.hom.lt s (List.mem_range.mp hs)
  have le2 := List.Nodup.length_le_of_subset (List.nodup_range (n := c.length)) (l₂ := firsts ((List.range b.length).map f)) fun x hx => by
    obtain ⟨s, hs, e⟩ := h.hom.onto fb h.ok (List.mem_range.mp hx)
    exact mem_firsts.mpr (List.mem_map.mpr ⟨s, List.mem_range.mpr hs, e⟩)
  rw [List.length_range] at le2
  omega
end Nv
set_option linter.all false
namespace Nv
/-! ### the same search from the other side -/
theorem othF_cons_ne {p : Nat × Nat} {s : State} {m : Nat} (h : p.1 ≠ m) : othF (p :: s) m = othF s m := by
  unfold othF
  rw [List.find?_cons, decide_eq_false h]
theorem othF_cons_eq {p : Nat × Nat} {s : State} {m : Nat} (h : p.1 = m) : othF (p :: s) m = some p := by
  unfold othF
  rw [List.find?_cons, decide_eq_true h]
/-- moves in their order, told by all messages in order -/
theorem fold_U {α : Type} (g : α → Nat × Nat → α) : ∀ (U : List Nat) (ms : State) (z : α), U.Pairwise (· < ·) → (ms.map (·.1)).Pairwise (· < ·) → (∀ p ∈ ms, p.1 ∈ U) →
    ms.foldl g z = U.foldl (fun z m => match othF ms m with | some p => g z p | none => z) z
  | [], [], _, _, _, _ => rfl
  | [], p :: _, _, _, _, h => nomatch h p (List.mem_cons_self ..)
  | m :: U, [], z, hU, hm, h => by
    have ih := fold_U g U [] z (List.pairwise_cons.mp hU).2 .nil fun p hp => nomatch hp
    show z = List.foldl _ z U
    exact ih
  | m :: U, p :: ms, z, hU, hm, h => by
    obtain ⟨u1, u2⟩ := List.pairwise_cons.mp hU
    rw [List.map_cons] at hm
    obtain ⟨m1, m2⟩ := List.pairwise_cons.mp hm
    have rest : ∀ (V : List Nat) (y : α), (∀ x ∈ V, p.1 < x) → V.foldl (fun z m => match othF (p :: ms) m with | some p => g z p | none => z) y = V.foldl (fun z m => match othF ms m with | some p => g z p | none => z) y := by
      intro V
      induction V with
      | nil => exact fun _ _ => rfl
      | cons x V ih =>
        intro y hV
        rw [List.foldl_cons, List.foldl_cons, othF_cons_ne (Nat.ne_of_lt (hV x (List.mem_cons_self ..)))]
        exact ih _ fun w hw => hV w (List.mem_cons_of_mem _ hw)
    rw [List.foldl_cons (l := U)]
    by_cases c : p.1 = m
    · rw [othF_cons_eq c]
      show List.foldl g (g z p) ms = List.foldl _ (g z p) U
      rw [rest U (g z p) fun x hx => by rw [c]; exact u1 x hx]
      refine fold_U g U ms (g z p) u2 m2 fun q hq => ?_
      have hl := m1 q.1 (List.mem_map.mpr ⟨q, hq, rfl⟩)
      rcases List.mem_cons.mp (h q (List.mem_cons_of_mem _ hq)) with e | e
      · omega
      · exact e
    · have hp : p.1 ∈ U := (List.mem_cons.mp (h p (List.mem_cons_self ..))).resolve_left c
      have hlt := u1 _ hp
      have hn : othF (p :: ms) m = none := by
        cases ho : othF (p :: ms) m with
        | none => rfl
        | some q =>
          obtain ⟨h1, h2⟩ := othF_some ho
          rcases List.mem_cons.mp h1 with rfl | h1
          · exact absurd h2 c
          · have := m1 q.1 (List.mem_map.mpr ⟨q, h1, rfl⟩)
            omega
      rw [hn]
      show List.foldl g z (p :: ms) = List.foldl _ z U
      refine fold_U g U (p :: ms) z u2 (by rw [List.map_cons]; exact hm) fun q hq => ?_
      rcases List.mem_cons.mp hq with rfl | hq'
      · exact hp
      · have hl := m1 q.1 (List.mem_map.mpr ⟨q, hq', rfl⟩)
        rcases List.mem_cons.mp (h q hq) with e | e
        · omega
        · exact e
def swP (e : PIt) : PIt := (e.1, e.2.2, e.2.1)
theorem sw_mem {Q : List PIt} {a b : Nat} : (b, a) ∈ (Q.map swP).map (·.2) ↔ (a, b) ∈ Q.map (·.2) := by
  rw [List.map_map, List.mem_map, List.mem_map]
  constructor
  · rintro ⟨e, he, h⟩
    have h1 : e.2.2 = b := congrArg Prod.fst h
    have h2 : e.2.1 = a := congrArg Prod.snd h
    exact ⟨e, he, Prod.ext h2 h1⟩
  · rintro ⟨e, he, h⟩
    have h1 : e.2.1 = a := congrArg Prod.fst h
    have h2 : e.2.2 = b := congrArg Prod.snd h
    exact ⟨e, he, Prod.ext h2 h1⟩
/-- one message: pushed, if both have it -/
def both (row : List Nat) (x y : State) (Q : List PIt) (m : Nat) : List PIt := match othF x m with
  | some p => pushP Q row y p
  | none => Q
theorem both_swap {row : List Nat} {x y : State} {Q : List PIt} {m : Nat} : both row y x (Q.map swP) m = (both row x y Q m).map swP := by
  unfold both pushP
  cases hx : othF x m with
  | none =>
    cases hy : othF y m with
    | none => rfl
    | some q =>
      obtain ⟨_, rfl⟩ := othF_some hy
      simp only [hx]
  | some p =>
    obtain ⟨_, hp⟩ := othF_some hx
    cases hy : othF y m with
    | none => simp only [hp, hy]
    | some q =>
      obtain ⟨_, hq⟩ := othF_some hy
      simp only [hp, hq, hx, hy]
      by_cases c : (p.2, q.2) ∈ Q.map (·.2)
      · rw [if_pos c, if_pos (sw_mem.mpr c)]
      · rw [if_neg c, if_neg (fun z => c (sw_mem.mp z)), List.map_append]
        rfl
theorem union_ex (x y : State) (hx : (x.map (·.1)).Pairwise (· < ·)) (hy : (y.map (·.1)).Pairwise (· < ·)) : ∃ U, UOf x y U := by
  have key : ∀ (l : List Nat), ∃ U : List Nat, U.Pairwise (· < ·) ∧ ∀ m, m ∈ U ↔ m ∈ l := by
    intro l
    refine ⟨(List.range (l.foldl max 0 + 1)).filter fun m => decide (m ∈ l), filt_srt _ _, fun m => ?_⟩
    rw [mem_filt, decide_eq_true_eq]
    refine ⟨fun h => h.2, fun h => ⟨?_, h⟩⟩
    have : ∀ (l : List Nat) (a : Nat), a ≤ l.foldl max a ∧ ∀ m ∈ l, m ≤ l.foldl max a := by
      intro l
      induction l with
      | nil => exact fun a => ⟨Nat.le_refl _, fun m hm => nomatch hm⟩
      | cons z r ih =>
        intro a
        obtain ⟨h1, h2⟩ := ih (max a z)
        refine ⟨Nat.le_trans (Nat.le_max_left _ _) h1, fun m hm => ?_⟩
        rcases List.mem_cons.mp hm with rfl | hm
        · exact Nat.le_trans (Nat.le_max_right _ _) h1
        · exact h2 m hm
    have := (this l 0).2 m h
    omega
  obtain ⟨U, h1, h2⟩ := key (x.map (·.1) ++ y.map (·.1))
  exact ⟨U, h1, fun m => by rw [h2, List.mem_append]⟩
theorem pushQ_swap {Q : List PIt} {row : List Nat} {x y : State} (hx : (x.map (·.1)).Pairwise (· < ·)) (hy : (y.map (·.1)).Pairwise (· < ·)) : pushQ (Q.map swP) row x y = (pushQ Q row y x).map swP := by
  obtain ⟨U, hU⟩ := union_ex x y hx hy
  unfold pushQ
  rw [fold_U (fun Q p => pushP Q row x p) U y (Q.map swP) hU.srt hy fun p hp => (hU.mem _).mpr (.inr (List.mem_map.mpr ⟨p, hp, rfl⟩)),
    fold_U (fun Q p => pushP Q row y p) U x Q hU.srt hx fun p hp => (hU.mem _).mpr (.inl (List.mem_map.mpr ⟨p, hp, rfl⟩))]
  have : ∀ (U : List Nat) (Q : List PIt), U.foldl (fun z m => both row y x z m) (Q.map swP) = (U.foldl (fun z m => both row x y z m) Q).map swP := by
    intro U
    induction U with
    | nil => exact fun _ => rfl
    | cons m U ih =>
      intro Q
      rw [List.foldl_cons, List.foldl_cons, both_swap]
      exact ih _
  exact this U Q
theorem qP_swap {one two : Book} (fo : FormB one) (ft : FormB two) : ∀ d, qP two one d = (qP one two d).map swP
  | 0 => rfl
  | d + 1 => by
    have ih := qP_swap fo ft d
    show (match (qP two one d)[d]? with
      | some e => pushQ (qP two one d) e.1 (mvs one e.2.2) (mvs two e.2.1)
      | none => qP two one d) = List.map swP (match (qP one two d)[d]? with
      | some e => pushQ (qP one two d) e.1 (mvs two e.2.2) (mvs one e.2.1)
      | none => qP one two d)
    rw [ih, List.getElem?_map]
    cases h : (qP one two d)[d]? with
    | none => rfl
    | some e => exact pushQ_swap (fo.rise e.2.1) (ft.rise e.2.2)
theorem metP_swap {one two : Book} (fo : FormB one) (ft : FormB two) : metP two one = (metP one two).map swP := by
  unfold metP
  rw [Nat.mul_comm, qP_swap fo ft]
theorem within_of_part {one two : Book} (fo : FormB one) (ft : FormB two) (h : partP one two = none) : withinP one two = true := by
  refine List.all_eq_true.mpr fun e he => List.all_eq_true.mpr fun p hp => ?_
  have hs := (single_nil (fo.rise e.2.1) (ft.rise e.2.2)).mp (part_none.mp h e he)
  rw [othF_in, decide_eq_true_eq, ← hs]
  exact List.mem_map.mpr ⟨p, hp, rfl⟩
theorem ren_id {c : Book} (fc : FormB c) (h : Ord c) : rename c (ordB c) = c := by
  rw [h]
  refine List.ext_getElem? fun s => ?_
  unfold rename
  rw [List.getElem?_map]
  by_cases hs : s < c.length
  · rw [List.getElem?_range hs, mvs_lt hs]
    show some _ = some _
    congr 1
    conv => rhs; rw [← List.map_id (mvs c s)]
    refine List.map_congr_left fun p hp => ?_
    show (p.1, (List.range c.length).idxOf p.2) = p
    rw [idx_of List.nodup_range (List.getElem?_range (fc.to hp))]
  · rw [List.getElem?_eq_none (by rw [List.length_range]; omega), List.getElem?_eq_none (by omega)]
    rfl
end Nv
set_option Elab.async false
set_option linter.all false
set_option maxRecDepth 100000
/-! a dict's comprehension over a walk; dicts from numbers to numbers -/
namespace Nv
open PySem PySem.Spec PyProof.Rows L2
theorem dc_it {J : It} {n : Nat} {G : Hp → Prop} {Y : Nat → Hp → V → Hp → Prop} (w : Walk J n G Y) {g : TG} {tt : TT} {tk tv : TE} {vs : List Nat} {σ : L2.St} {H1 : Hp} {D : Addr} {Qd : Hp → Prop} (Pv : Nat → Hp → Prop) (h0 : Pv 0 (upd H1 D (.dK []))) (hG : ∀ i H, i ≤ n → Pv i H → G H)
    (hs : ∀ i x H H', i < n → Pv i H → Y i H x H' → g x (wipe σ vs) H' fun σ2 H2 => wipe σ2 vs = wipe σ vs ∧ tt σ2 H2 fun b H3 =>
      if b = true then tk σ2 H3 fun y H4 => tv σ2 H4 fun z H5 => ∃ kvs k, y = kV k ∧ H5 D = some (.dK kvs) ∧ kvs.length < sizeLine ∧ Pv (i + 1) (upd H5 D (.dK (putK kvs k z))) else Pv (i + 1) H3) (hd : ∀ H, Pv n H → Qd H) :
    ∃ W : Nat → Nat → Hp → Prop, (∃ m, W 0 m (upd H1 D (.dK []))) ∧ ∀ i m H, W i m H →
      (J.stop i H ∧ Qd H) ∨ (J.go i H ∧ ∃ Nx : Hp → Prop, (∀ H', Nx H' → ∃ m', m' < m ∧ W (i + 1) m' H') ∧ ∀ x H', J.yld i H x H' → g x (wipe σ vs) H' fun σ2 H2 => wipe σ2 vs = wipe σ vs ∧ tt σ2 H2 fun b H3 =>
        if b = true then tk σ2 H3 fun y H4 => tv σ2 H4 fun z H5 => ∃ kvs k, y = kV k ∧ H5 D = some (.dK kvs) ∧ kvs.length < sizeLine ∧ Nx (upd H5 D (.dK (putK kvs k z))) else Nx H3) := by
  refine ⟨fun i m H => m = n - i ∧ i ≤ n ∧ Pv i H, ⟨n, by simp, Nat.zero_le _, h0⟩, ?_⟩
  rintro i m H ⟨rfl, hi, p⟩
  have q := hG i H hi p
  by_cases hlt : i < n
  · refine .inr ⟨w.goes i H hlt q, Pv (i + 1), fun H' p' => ⟨n - (i + 1), by omega, rfl, hlt, p'⟩, fun x H' y => hs i x H H' hlt p (w.yields i H x H' hlt q y)⟩
  · have e : i = n := by omega
    subst e
    exact .inl ⟨w.stops H q, hd H p⟩
/-- the dict that gives each state of F its place there -/
abbrev placesK (F : List Nat) : List (Key × V) := F.zipIdx.map fun p => (kN p.1, nV p.2)
theorem placesK_snoc {F : List Nat} {s : Nat} : placesK (F ++ [s]) = placesK F ++ [(kN s, nV F.length)] := by
  unfold placesK
  rw [List.zipIdx_append, List.map_append]
  simp
theorem placesK_keys {F : List Nat} : (placesK F).map (·.1) = F.map kN := by
  unfold placesK
  rw [List.map_map]
  have : (F.zipIdx.map ((fun x => x.1) ∘ fun p : Nat × Nat => (kN p.1, nV p.2))) = (F.zipIdx.map (·.1)).map kN := by rw [List.map_map]; rfl
  rw [this, List.zipIdx_map_fst]
theorem placesK_len {F : List Nat} : (placesK F).length = F.length := by simp [placesK]
theorem kN_injD {a b : Nat} (h : kN a = kN b) : a = b := by
  have := Sum.inl.inj h
  omega
/-- a new key goes to the end -/
theorem placesK_put {F : List Nat} {s : Nat} (h : s ∉ F) : putK (placesK F) (kN s) (nV F.length) = placesK (F ++ [s]) := by
  rw [placesK_snoc]
  have hf : valV (placesK F) (kN s) = none := by
    have := valV_key (placesK_keys (F := F)) s
    rw [decide_eq_false h] at this
    cases e : valV (placesK F) (kN s) with
    | none => rfl
    | some z => rw [e] at this; cases this
  exact putK_new _ hf
theorem placesK_val {F : List Nat} (nd : F.Nodup) {s : Nat} (h : s ∈ F) : valV (placesK F) (kN s) = some (nV (F.idxOf s)) := by
  have hs := valV_key (placesK_keys (F := F)) s
  rw [decide_eq_true h] at hs
  obtain ⟨v, hv⟩ := Option.isSome_iff_exists.mp hs
  have hm := valV_mem hv
  obtain ⟨p, hp, e⟩ := List.mem_map.mp hm
  have e1 : kN p.1 = kN s := congrArg Prod.fst e
  have e2 : nV p.2 = v := congrArg Prod.snd e
  have e3 := kN_injD e1
  obtain ⟨i, hi, hie⟩ := List.mem_iff_getElem.mp hp
  rw [List.getElem_zipIdx] at hie
  have hi' : i < F.length := by simpa using hi
  have a1 : F[i] = p.1 := congrArg Prod.fst hie
  have a2 : 0 + i = p.2 := congrArg Prod.snd hie
  have : F.idxOf s = i := by
    rw [← e3, ← a1]
    exact List.Nodup.idxOf_getElem nd i hi'
  rw [hv, ← e2, this, ← a2, Nat.zero_add]
end Nv
set_option Elab.async false
set_option linter.all false
set_option maxRecDepth 100000
namespace Nv
open PySem PySem.Spec PyProof.Rows L2
/-! ### dicts whose keys are tuples of numbers and of such tuples -/
mutual
/-- a tracked value is the key -/
inductive NkV (K : PySem.W.Frag) (H : Hp) : NestedKey → V → Prop
  | num (i : Int) : NkV K H (.num i) (.int i)
  | tup {a : Addr} {xs : List V} {ks : List NestedKey} : SqT K H a xs → NkA K H ks xs → NkV K H (.tup ks) (.ref a)
inductive NkA (K : PySem.W.Frag) (H : Hp) : List NestedKey → List V → Prop
  | nil : NkA K H [] []
  | cons {k : NestedKey} {v : V} {ks : List NestedKey} {vs : List V} : NkV K H k v → NkA K H ks vs → NkA K H (k :: ks) (v :: vs)
end
mutual
theorem nk_is {X : Cx} {pins : List (Addr × Obj)} {σ : L2.St} {H : Hp} {s : Shared} (I : Inv X pins σ H s) : ∀ (k : NestedKey) (v : V) (u : Value), NkV X.K H k v → RelV v u → NestedIs s.heap k u
  | .num i, _, _, h, r => by
    cases h
    obtain ⟨t, rfl⟩ := (show ∃ t, _ = Value.int i t from r)
    exact .int i t
  | .tup ks, _, _, h, r => by
    cases h with
    | @tup a xs _ hq ha =>
      obtain rfl : _ = Value.ref a := r
      obtain ⟨its, rv, ⟨o, h1, h2, n, h3⟩, _⟩ := I.tuple hq
      exact .tup h1 h2 h3 (by simpa using nk_all I ks xs its ha rv)
  | .none, _, _, h, _ => by cases h
  | .text _, _, _, h, _ => by cases h
theorem nk_all {X : Cx} {pins : List (Addr × Obj)} {σ : L2.St} {H : Hp} {s : Shared} (I : Inv X pins σ H s) : ∀ (ks : List NestedKey) (vs : List V) (us : List Value), NkA X.K H ks vs → Vals vs us → NestedAll s.heap ks us
  | [], _, _, h, r => by
    cases h
    cases r
    exact .nil
  | k :: ks, _, _, h, r => by
    cases h with
    | cons h1 h2 =>
      cases r with
      | cons r1 r2 => exact .cons (nk_is I k _ _ h1 r1) (nk_all I ks _ _ h2 r2)
end
/-- an entry: the key, the tuple that stands for it, the value -/
abbrev Ent := NestedKey × Addr × V
def DnP (w : World) (a : Addr) (kvs : List Ent) (h : Heap) : Prop := kvs.length ≤ sizeLine ∧ (a == sysModules) = false ∧
  ∃ xs : List (NestedKey × Addr × Value), Paired (fun p q => p.1 = q.1 ∧ p.2.1 = q.2.1 ∧ RelV p.2.2 q.2.2) kvs xs ∧
    ∃ o es ep, h.get? a = some o ∧ o.ExactDict ∧ o.data = .dict es ep ∧ es.toList = (xs.map fun x => (⟨x.1.hash w, .ref x.2.1, x.2.2⟩ : DictEntry)) ∧ (xs.map (·.1)).Nodup
abbrev dnO (w : World) (a : Addr) (kvs : List Ent) : HO := .ext (DnP w a kvs)
/-- the keys are there -/
def KeysIn (K : PySem.W.Frag) (H : Hp) (kvs : List Ent) : Prop := ∀ e ∈ kvs, NkV K H e.1 (.ref e.2.1) ∧ e.1.depth ≤ 8
def valN (kvs : List Ent) (k : NestedKey) : Option V := (kvs.find? fun e => decide (e.1 = k)).map (·.2.2)
theorem dn_val {kvs : List Ent} {xs : List (NestedKey × Addr × Value)} (r : Paired (fun (p : Ent) (q : NestedKey × Addr × Value) => p.1 = q.1 ∧ p.2.1 = q.2.1 ∧ RelV p.2.2 q.2.2) kvs xs) (k : NestedKey) : RelO (valN kvs k) ((atKey xs k).map (·.2)) := by
  induction r with
  | nil => exact True.intro
  | @cons p q ps qs h t ih =>
    obtain ⟨h1, _, h2⟩ := h
    by_cases e : p.1 = k
    · have e' : q.1 = k := h1.symm.trans e
      have b : atKey (q :: qs) k = some q.2 := by simp [atKey, List.find?_cons, e']
      have c : valN (p :: ps) k = some p.2.2 := by simp [valN, List.find?_cons, e]
      rw [c, b]; exact h2
    · have e' : ¬ q.1 = k := fun z => e (h1.trans z)
      have b : atKey (q :: qs) k = atKey qs k := by simp [atKey, List.find?_cons, e']
      have c : valN (p :: ps) k = valN ps k := by simp [valN, List.find?_cons, e]
      rw [c, b]; exact ih
theorem dn_keys {kvs : List Ent} {xs : List (NestedKey × Addr × Value)} (r : Paired (fun (p : Ent) (q : NestedKey × Addr × Value) => p.1 = q.1 ∧ p.2.1 = q.2.1 ∧ RelV p.2.2 q.2.2) kvs xs) : xs.map (·.1) = kvs.map (·.1) ∧ xs.map (·.2.1) = kvs.map (·.2.1) := by
  induction r with
  | nil => exact ⟨rfl, rfl⟩
  | @cons p q ps qs h t ih =>
    obtain ⟨h1, h2, _⟩ := h
    exact ⟨by rw [List.map_cons, List.map_cons, ih.1, h1], by rw [List.map_cons, List.map_cons, ih.2, h2]⟩
theorem dn_snoc {kvs : List Ent} {xs : List (NestedKey × Addr × Value)} {k : NestedKey} {b : Addr} {v : V} {u : Value} (r : Paired (fun (p : Ent) (q : NestedKey × Addr × Value) => p.1 = q.1 ∧ p.2.1 = q.2.1 ∧ RelV p.2.2 q.2.2) kvs xs) (h : RelV v u) :
    Paired (fun (p : Ent) (q : NestedKey × Addr × Value) => p.1 = q.1 ∧ p.2.1 = q.2.1 ∧ RelV p.2.2 q.2.2) (kvs ++ [(k, b, v)]) (xs ++ [(k, b, u)]) := by
  induction r with
  | nil => exact .cons ⟨rfl, rfl, h⟩ .nil
  | cons h t ih => exact .cons h ih
theorem nk_ref {K : PySem.W.Frag} {H : Hp} {k : NestedKey} {b : Addr} (h : NkV K H k (.ref b)) : ∃ ks, k = .tup ks := by
  cases h with
  | tup _ _ => exact ⟨_, rfl⟩
theorem hn_of {A : Around} {k : Nat} (hr : Room k A) : A.units + 9 < cLine := Nat.lt_of_le_of_lt (Nat.add_le_add_left (by decide : 9 ≤ 64) _) hr.units
section
variable {X : Cx} {pins : List (Addr × Obj)} {σ : L2.St} {H : Hp} {s : Shared} {a b : Addr} {kvs : List Ent} {k : NestedKey} {v : V}
theorem dn_of (I : Inv X pins σ H s) (e : H a = some (dnO X.w a kvs)) (ks : KeysIn X.K H kvs) : kvs.length ≤ sizeLine ∧ (a == sysModules) = false ∧
    ∃ xs, Paired (fun (p : Ent) (q : NestedKey × Addr × Value) => p.1 = q.1 ∧ p.2.1 = q.2.1 ∧ RelV p.2.2 q.2.2) kvs xs ∧ s.heap.DictOfH (nestedKind X.prog X.w) a xs := by
  obtain ⟨⟨z, y, xs, r, o, es, ep, h1, h2, h3, h4, h5⟩, _, _⟩ := (show ObjOk X.prog X.w H s.heap a (dnO X.w a kvs) from I.hok a _ e)
  refine ⟨z, y, xs, r, o, es, ep, h1, h2, h3, h4, fun x hx => ?_, h5⟩
  have all : ∀ {l : List Ent} {m : List (NestedKey × Addr × Value)}, Paired (fun (p : Ent) (q : NestedKey × Addr × Value) => p.1 = q.1 ∧ p.2.1 = q.2.1 ∧ RelV p.2.2 q.2.2) l m → KeysIn X.K H l → ∀ x ∈ m, (nestedKind X.prog X.w).is s.heap x.1 x.2.1 := by
    intro l m q
    induction q with
    | nil => intro _ x hx; exact nomatch hx
    | @cons p q ps qs hq t ih =>
      intro ki x hx
      rcases List.mem_cons.mp hx with e | hx
      · subst e
        obtain ⟨g1, g2⟩ := ki p (List.mem_cons_self ..)
        rw [hq.1, hq.2.1] at g1
        rw [hq.1] at g2
        exact ⟨nk_is I _ _ _ g1 rfl, g2⟩
      · exact ih (fun e he => ki e (List.mem_cons_of_mem _ he)) x hx
  exact all r ks x hx
theorem nk_kind (I : Inv X pins σ H s) (h : NkV X.K H k (.ref b)) (d : k.depth ≤ 8) : (nestedKind X.prog X.w).is s.heap k b := ⟨nk_is I _ _ _ h rfl, d⟩
end
/-- what the dict at a holds at the key y -/
def DnGet (K : PySem.W.Frag) (w : World) (H : Hp) (a : Addr) (y : V) (r : Option V) : Prop := ∃ kvs k b, H a = some (dnO w a kvs) ∧ KeysIn K H kvs ∧ y = .ref b ∧ NkV K H k y ∧ k.depth ≤ 8 ∧ r = valN kvs k
/-- a[y] = v for a key that is not there -/
def DnPut (K : PySem.W.Frag) (w : World) (H : Hp) (a : Addr) (y v : V) (H' : Hp) : Prop := ∃ kvs k b, H a = some (dnO w a kvs) ∧ KeysIn K H kvs ∧ y = .ref b ∧ NkV K H k y ∧ k.depth ≤ 8 ∧ valN kvs k = none ∧ kvs.length < sizeLine ∧ H' = upd H a (dnO w a (kvs ++ [(k, b, v)]))
def tDNewN (w : World) : TE := fun _ H Q => ∀ p, H p = none → Q (.ref p) (upd H p (dnO w p []))
def tDnGet (K : PySem.W.Frag) (w : World) (td ty : TE) : TE := fun σ H Q => td σ H fun x H1 => ty σ H1 fun y H2 => ∃ a v, x = .ref a ∧ DnGet K w H2 a y (some v) ∧ Q v H2
def tDnIn (K : PySem.W.Frag) (w : World) (ty td : TE) : TE := fun σ H Q => ty σ H fun y H1 => td σ H1 fun x H2 => ∃ a o, x = .ref a ∧ DnGet K w H2 a y o ∧ Q (.bl o.isSome) H2
def tDnNotIn (K : PySem.W.Frag) (w : World) (ty td : TE) : TE := fun σ H Q => ty σ H fun y H1 => td σ H1 fun x H2 => ∃ a o, x = .ref a ∧ DnGet K w H2 a y o ∧ Q (.bl (!o.isSome)) H2
def sDnPut (K : PySem.W.Frag) (w : World) (td ty tv : TE) : TS := fun D σ H => tv σ H fun v H1 => td σ H1 fun x H2 => ty σ H2 fun y H3 => ∃ a H4, x = .ref a ∧ DnPut K w H3 a y v H4 ∧ D.nx σ H4
theorem dn_empty {w : World} {a : Addr} {h : Heap} {o : Obj} (hb : (a == sysModules) = false) (e : h.get? a = some o) (c : o.ExactDict) (d : o.data = .dict #[] 0) : DnP w a [] h :=
  ⟨Nat.zero_le _, hb, [], .nil, o, #[], 0, e, c, d, rfl, List.nodup_nil⟩
theorem dn_stay {w : World} {a : Addr} {kvs : List Ent} : ∀ h1 h2 : Heap, DnP w a kvs h1 → (∀ o, h1.get? a = some o → h2.get? a = some o) → DnP w a kvs h2 := fun h1 h2 ⟨z, y, xs, r, o, es, ep, e1, e2⟩ st => ⟨z, y, xs, r, o, es, ep, st o e1, e2⟩
section
variable {X : Cx} {K : PySem.W.Frag} {w : World} {o i value : Expr} {pos pos' : Pos} {td ty tv : TE}
theorem pe_dnewN (w : World) (ew : X.w = w := by rfl) : PE X (.Dict [] [] pos) (tDNewN w) := ⟨fun pins s σ H Q I h => by
  subst ew
  have hb : (s.heap.objs.size == sysModules) = false := beq_eq_false_iff_ne.mpr (Ne.symm (Nat.ne_of_lt I.big))
  refine wpAny_Dict_empty ⟨.ref s.heap.objs.size, _, I.laid (a := s.heap.objs.size) (o := dnO X.w s.heap.objs.size []) (t' := s.toks) (fun _ _ q => Heap.get?_push_of_some _ q) (Nat.le_refl _) ?_, rfl, h _ (I.hok.fresh (Nat.le_refl _))⟩
  exact ⟨dn_empty hb (Heap.get?_push_size _ rfl) ⟨rfl, rfl, rfl⟩ rfl, ⟨_, Heap.get?_push_size _ rfl⟩, dn_stay⟩⟩
theorem dn_typeIs {pins : List (Addr × Obj)} {σ : L2.St} {H : Hp} {s : Shared} {a : Addr} {y : V} {r : Option V} (I : Inv X pins σ H s) (g : DnGet X.K X.w H a y r) : s.TypeIs (.ref a) "dict" := by
  obtain ⟨kvs, k, b, e, ki, _⟩ := g
  obtain ⟨_, _, xs, _, dd⟩ := dn_of I e ki
  exact dd.typeIs
theorem pe_dgetN (K : PySem.W.Frag) (w : World) (hu : X.A.units + 9 < cLine) (ho : PE X o td) (hi : PE X i ty) (hs : NoSl i) (eK : X.K = K := by rfl) (ew : X.w = w := by rfl) : PE X (.Subscript o i pos) (tDnGet K w td ty) := by
  subst eK ew
  refine ⟨fun pins s σ H Q I h => ?_⟩
  refine subD_of PySem.F.slot_dict_getitem.lookup hs (thn (ho.run pins s σ H _ I h) fun u s1 ⟨x, H1, I1, rx, q1⟩ => thn (hi.run pins s1 σ H1 _ I1 q1) fun iv s2 ⟨y, H2, I2, ry, a, v, ex, g, q2⟩ => ?_)
  subst ex
  obtain rfl : u = Value.ref a := rx
  refine ⟨dn_typeIs I2 g, ?_⟩
  obtain ⟨kvs, k, b, e, ki, rfl, hk, hd, l⟩ := g
  obtain rfl : iv = Value.ref b := ry
  obtain ⟨z, _, xs, rel, dd⟩ := dn_of I2 e ki
  obtain ⟨w', hw, rw'⟩ := RelO.some_of (v := v) (o := (atKey xs k).map (·.2)) (by rw [l]; exact dn_val rel k)
  obtain ⟨p, hp, hp2⟩ := Option.map_eq_some_iff.mp hw
  refine wpAny_getItem_heap (knd := nestedKind X.prog X.w) (show X.A.in1.units + 8 < cLine by rw [Around.in1_units]; omega) (nk_kind I2 hk hd) dd hp ?_
  rw [hp2]
  exact ⟨v, H2, I2.tok _, rw', q2⟩
theorem pc_dinN (K : PySem.W.Frag) (w : World) (hu : X.A.units + 9 < cLine) (hi : PE X i ty) (ho : PE X o td) (eK : X.K = K := by rfl) (ew : X.w = w := by rfl) : PC X .In i o (tDnIn K w ty td) := by
  subst eK ew
  refine ⟨fun pins s σ H Q I h => ?_⟩
  refine thn (hi.run pins s σ H _ I h) fun iv s1 ⟨y, H1, I1, ry, q1⟩ => thn (ho.run pins s1 σ H1 _ I1 q1) fun u s2 ⟨x, H2, I2, rx, a, ov, ex, g, q2⟩ => ?_
  subst ex
  obtain rfl : u = Value.ref a := rx
  obtain ⟨kvs, k, b, e, ki, rfl, hk, hd, l⟩ := g
  obtain rfl : iv = Value.ref b := ry
  obtain ⟨z, hl, xs, rel, dd⟩ := dn_of I2 e ki
  refine wpAny_in_heap (knd := nestedKind X.prog X.w) (show X.A.in1.units + 8 < cLine by rw [Around.in1_units]; omega) (nk_kind I2 hk hd) hl dd ?_
  have q := (dn_val rel k).isSome_eq
  rw [Option.isSome_map] at q
  rw [← q, ← l]
  exact ⟨.bl ov.isSome, H2, I2.tok _, rfl, q2⟩
theorem pc_dnotinN (K : PySem.W.Frag) (w : World) (hu : X.A.units + 9 < cLine) (hi : PE X i ty) (ho : PE X o td) (eK : X.K = K := by rfl) (ew : X.w = w := by rfl) : PC X .NotIn i o (tDnNotIn K w ty td) := by
  subst eK ew
  refine ⟨fun pins s σ H Q I h => ?_⟩
  refine thn (hi.run pins s σ H _ I h) fun iv s1 ⟨y, H1, I1, ry, q1⟩ => thn (ho.run pins s1 σ H1 _ I1 q1) fun u s2 ⟨x, H2, I2, rx, a, ov, ex, g, q2⟩ => ?_
  subst ex
  obtain rfl : u = Value.ref a := rx
  obtain ⟨kvs, k, b, e, ki, rfl, hk, hd, l⟩ := g
  obtain rfl : iv = Value.ref b := ry
  obtain ⟨z, hl, xs, rel, dd⟩ := dn_of I2 e ki
  refine wpAny_notIn_heap (knd := nestedKind X.prog X.w) (show X.A.in1.units + 8 < cLine by rw [Around.in1_units]; omega) (nk_kind I2 hk hd) hl dd ?_
  have q := (dn_val rel k).isSome_eq
  rw [Option.isSome_map] at q
  rw [← q, ← l]
  exact ⟨.bl (!ov.isSome), H2, I2.tok _, rfl, q2⟩
theorem ps_dputN (K : PySem.W.Frag) (w : World) (hu : X.A.units + 9 < cLine) (ho : PE X o td) (hi : PE X i ty) (hv : PE X value tv) (hs : swapsWith value (some (.Subscript o i pos')) pos.line X.env = pure false) (eK : X.K = K := by rfl) (ew : X.w = w := by rfl) :
    PS X (.Assign [.Subscript o i pos'] value pos) (sDnPut K w td ty tv) := by
  subst eK ew
  refine ⟨fun pins s σ H D I h => ?_⟩
  refine wpAny_Assign_Subscript (thn (hv.run pins s σ H _ I h) fun r s1 ⟨v, H1, I1, rv, q1⟩ => thn (ho.run pins s1 σ H1 _ I1 q1) fun u s2 ⟨x, H2, I2, rx, q2⟩ => thn (hi.run pins s2 σ H2 _ I2 q2) fun iv s3 ⟨y, H3, I3, ry, a, H4, ex, g, q3⟩ => ?_) hs
  subst ex
  obtain rfl : u = Value.ref a := rx
  obtain ⟨kvs, k, b, e, ki, rfl, hk, hd, l, hz, rfl⟩ := g
  obtain rfl : iv = Value.ref b := ry
  obtain ⟨z, hl, xs, rel, dd⟩ := dn_of I3 e ki
  have hz' : xs.length ≤ sizeLine := by rw [← Paired.length rel]; exact z
  have hno : atKey xs k = none := by
    have q := (dn_val rel k).isSome_eq
    rw [Option.isSome_map, l] at q
    cases h : atKey xs k with
    | none => rfl
    | some p => rw [h] at q; cases q
  refine wpAny_setItem_heap (knd := nestedKind X.prog X.w) (hsz := hz') (show X.A.in1.units + 8 < cLine by rw [Around.in1_units]; omega) (nk_kind I3 hk hd) dd fun h' dd' hs => ?_
  rw [storedH_new hno] at dd'
  obtain ⟨q, es, ep, hq, h2, h3, h4, _, h5⟩ := dd'
  refine ⟨σ, _, d_write (ob := dnO X.w a (kvs ++ [(k, b, v)])) I3 (by rw [e]; exact True.intro) hs ⟨q, hq⟩ ⟨⟨?_, hl, _, dn_snoc rel rv, q, es, ep, hq, h2, h3, h4, h5⟩, ⟨q, hq⟩, dn_stay⟩, q3⟩
  rw [List.length_append]
  show kvs.length + 1 ≤ sizeLine
  omega
/-- len of such a dict -/
theorem call_lenN (K : PySem.W.Frag) (w : World) (eK : X.K = K := by rfl) (ew : X.w = w := by rfl) : CallR X (.builtin "len") (fun xs H Q => ∃ a kvs, xs = [V.ref a] ∧ H a = some (dnO w a kvs) ∧ Q (.int kvs.length) H) := by
  subst eK ew
  intro pins s σ H xs us Q I r h
  obtain ⟨a, kvs, rfl, ha, q⟩ := h
  obtain ⟨u, rfl, ru⟩ := vals1 r
  cases ru
  obtain ⟨⟨z, y, ws, rel, o, es, ep, h1, h2, h3, h4, h5⟩, _, _⟩ := (show ObjOk X.prog X.w H s.heap a (dnO X.w a kvs) from I.hok a _ ha)
  have hn : es.size = kvs.length := by rw [← Array.length_toList, h4, List.length_map, ← Paired.length rel]
  have ty : s.TypeIs (.ref a) "dict" := ⟨o, h1, h2.1⟩
  refine Calls.call_function_entry kind_len plain_len entry_len (args_len1 _) ?_
  unfold Builtin.«len»
  refine wpAny_bind (m := oneArg "len" _) (wpAny_pure ?_)
  refine wpAny_bind (m := callSpecial? (.ref a) (Str.ofString "__len__")) (wpAny_callSpecial?_slot (name := Str.ofString "__len__") ty PySem.F.slot_dict_len
    (call_meetsIn PySem.F.slot_dict_len ty PySem.F.entry_dict_len (PySem.F.args_dict_len_1 _) (.of_wp (S := fun _ R s => (∃ o, s.heap.get? a = some o ∧ o.data = .dict es ep) ∧ R (.ok (.ret (.int kvs.length s.toks))) { s with toks := s.toks + 1 }) fun A R s ⟨⟨o, ho, hdat⟩, h⟩ => ?_) ⟨⟨o, h1, h3⟩, ?_⟩))
  · show wpAny _ _ (dictSize a >>= _) _ _ s
    unfold dictSize
    refine wpAny_bind (wpAny_bind (wpAny_dictEntries ho hdat (wpAny_pure ?_)))
    show wpAny _ _ (Builtin.Dict.pendingCount a >>= _) _ _ s
    refine wpAny_bind (wpAny_pendingCount_other y ?_)
    refine wpAny_ret_mkInt ?_
    rw [Nat.add_zero, hn]; exact h
  · show wpAny _ _ _ _ _ { s with toks := s.toks + 1 }
    refine wpAny_bind (wpAny_holding (wpAny_pure ?_))
    refine wpAny_bind (wpAny_letGo ?_)
    have fit : (kvs.length : Int) < 2 ^ 63 := by rw [sizeLine_eq] at z; omega
    show wpAny _ _ (if ((kvs.length : Nat) : Int) < 0 then _ else _) _ _ _
    rw [if_neg (by omega)]
    show wpAny _ _ (if ((kvs.length : Nat) : Int) ≥ 2 ^ 63 then _ else _) _ _ _
    rw [if_neg (by omega)]
    exact wpAny_bind (wpAny_mkInt (wpAny_pure ⟨_, rfl, ⟨.int kvs.length, H, I.tok _, ⟨_, rfl⟩, q⟩⟩))
/-- the key tuples of such a dict, in order -/
theorem call_list_dN (hc : X.calm = true) (w : World) (ew : X.w = w := by rfl) : CallR X (.type "list") (fun xs H Q => ∃ d kvs, xs = [V.ref d] ∧ H d = some (dnO w d kvs) ∧ ∀ p, H p = none → Q (.ref p) (upd H p (.lst (kvs.map fun e => V.ref e.2.1)))) := by
  subst ew
  intro pins s σ H xs us Q I r h
  obtain ⟨d, kvs, rfl, hd, q⟩ := h
  obtain ⟨u, rfl, rx⟩ := r.one
  cases rx
  obtain ⟨⟨z, hs, ks, pr, o, es, ep, ho, hx, hdt, he, hn⟩, _, _⟩ := (show ObjOk X.prog X.w H s.heap d (dnO X.w d kvs) from I.hok d _ hd)
  have l1 : es.size = ks.length := by rw [← Array.length_toList, he, List.length_map]
  have l2 : kvs.length = ks.length := Paired.length pr
  refine PySem.W.kdl_call (kdl_raw hs hx hdt) (I.ok.hd hc) ho (by omega) fun h' tk acc' c' kp e it => ?_
  have ea : acc'.toList = (kvs.map (·.2.1)).map Value.ref := by
    rw [← (dn_keys pr).2, List.map_map]
    have hl : acc'.toList.length = ks.length := by rw [Array.length_toList, it.1]; exact l1
    apply List.ext_getElem?
    intro j
    rw [List.getElem?_map]
    cases hj : acc'.toList[j]? with
    | none =>
      have h1 := List.getElem?_eq_none_iff.mp hj
      rw [List.getElem?_eq_none (by omega)]
      all_goals rfl
    | some v =>
      obtain ⟨en, hen, hv⟩ := it.2 j v (by rw [← Array.getElem?_toList]; exact hj)
      rw [← Array.getElem?_toList, he, List.getElem?_map] at hen
      cases hb : ks[j]? with
      | none =>
        rw [hb] at hen
        cases hen
      | some b =>
        rw [hb] at hen
        cases hen
        rw [hv]
        all_goals rfl
  have e0 : (kvs.map fun e => V.ref e.2.1) = (kvs.map (·.2.1)).map V.ref := by rw [List.map_map]; rfl
  have rv : Vals (kvs.map fun e => V.ref e.2.1) acc'.toList := by rw [ea, e0]; exact vals_refs _
  refine ⟨.ref s.heap.objs.size, _, I.laid (t' := tk) (o := .lst (kvs.map fun e => V.ref e.2.1)) kp (Nat.le_refl _) ?_, rfl, q _ (I.hok.fresh (Nat.le_refl _))⟩
  exact ⟨by rw [List.length_map]; exact z, acc'.toList, c', rv, by rw [Array.toArray_toList]; exact e⟩
end
end Nv
set_option Elab.async false
set_option linter.all false
set_option maxRecDepth 100000
namespace Nv
open PySem PySem.Spec PyProof.Rows L2
/-! ### {k: v}, the key a tuple -/
def tDnOne (K : PySem.W.Frag) (w : World) (tk tv : TE) : TE := fun σ H Q => ∀ p, H p = none → tk σ (upd H p (dnO w p [])) fun x H1 => tv σ H1 fun y H2 => H2 p = some (dnO w p []) ∧ ∃ (k : NestedKey) (b : Addr), x = .ref b ∧ NkV K H2 k x ∧ k.depth ≤ 8 ∧ Q (.ref p) (upd H2 p (dnO w p [(k, b, y)]))
theorem pe_dispN1 {X : Cx} (K : PySem.W.Frag) (w : World) {k v : Expr} {pos : Pos} {tk tv : TE} (hu : X.A.units + 9 < cLine) (hk : PE X k tk) (hv : PE X v tv) (eK : X.K = K := by rfl) (ew : X.w = w := by rfl) : PE X (.Dict [some k] [v] pos) (tDnOne K w tk tv) := by
  subst eK ew
  refine ⟨fun pins s σ H Q I q => ?_⟩
  have hn := I.hok.fresh (Nat.le_refl s.heap.objs.size)
  have hb : (s.heap.objs.size == sysModules) = false := beq_eq_false_iff_ne.mpr (Ne.symm (Nat.ne_of_lt I.big))
  have I1 := I.laid (a := s.heap.objs.size) (o := dnO X.w s.heap.objs.size []) (h' := s.heap.push { cls := .type "dict", data := .dict #[] }) (t' := s.toks) (fun _ _ q => Heap.get?_push_of_some _ q) (Nat.le_refl _) ⟨dn_empty hb (Heap.get?_push_size _ rfl) ⟨rfl, rfl, rfl⟩ rfl, ⟨_, Heap.get?_push_size _ rfl⟩, dn_stay⟩
  rw [arm_eval_Dict, zip_pairTrees [some k] [v] X.env pos rfl rfl, dictDisplay_pairs (pairTrees [some k] [v] X.env pos) (fun z => by have := congrArg List.length z; rw [pairTrees_length [some k] [v] X.env pos rfl rfl] at this; cases this) (by rw [pairTrees_length [some k] [v] X.env pos rfl rfl]; exact (by decide : 1 < 17))]
  refine wpAny_bind (wpAny_standAt (wpAny_bind (wpAny_subDictH (knd := nestedKind X.prog X.w) (show X.A.units + 8 < cLine by omega) (by rw [pairTrees_length [some k] [v] X.env pos rfl rfl]; exact (by decide : 1 ≤ 15)) ?_)))
  refine pairTrees_cons_walk (thn (hk.run pins _ σ _ _ I1 (q _ hn)) fun u s1 ⟨x, H1, I1', rx, q1⟩ => thn (hv.run pins s1 σ H1 _ I1' q1) fun w2 s2 ⟨y, H2, I2, ry, e, key, b, ex, nk, dp, q2⟩ => pairTrees_nil_walk ?_)
  subst ex
  obtain rfl : u = Value.ref b := rx
  obtain ⟨z, hl, xs, rel, dd⟩ := dn_of I2 e fun e he => nomatch he
  cases rel
  refine ⟨[(key, b, w2)], ⟨rfl, rfl, nk_kind I2 nk dp, True.intro⟩, dd, fun h' tk dd' hs => wpAny_pure ?_⟩
  have e0 : storedAllH [] [(key, b, w2)] = [(key, b, w2)] := rfl
  rw [e0] at dd'
  obtain ⟨o, es, ep, hq, h2, h3, h4, _, h5⟩ := dd'
  refine ⟨.ref s.heap.objs.size, _, d_write (ob := dnO X.w s.heap.objs.size [(key, b, y)]) I2 (by rw [e]; exact True.intro) hs ⟨o, hq⟩ ⟨⟨by rw [sizeLine_eq]; show 1 ≤ 16777216; omega, hl, [(key, b, w2)], .cons ⟨rfl, rfl, ry⟩ .nil, o, es, ep, hq, h2, h3, h4, h5⟩, ⟨o, hq⟩, dn_stay⟩, rfl, q2⟩
end Nv
set_option Elab.async false
set_option linter.all false
set_option maxRecDepth 100000
namespace Nv
open PySem PySem.Spec PyProof.Rows L2
section
variable {P : Program} {w : World} {K : PySem.W.Frag} {mg : Str → Option Value} {base : Heap}
/-! ### is it a book -/
theorem sc_is_book : FnScope ["thing"] ["thing"] (defScope s_is_book) := ⟨rfl, rfl, rfl, by decide +kernel, rfl, by decide +kernel, by decide +kernel⟩
def sp_is_book (K : PySem.W.Frag) : Sp := fun vs H Q _ => ∃ (v : V) (b : Book), vs = [v] ∧ BkV K H v b ∧ OkB b ∧ ∀ H', Ext [] H H' → Q (.bl true) H'
theorem ok_is_book (T : Tx K mg) : FnOk P w K mg base CX0 6 T.is_book.f T.is_book.fd ["thing"] (sp_is_book K) := by
  refine T.is_book.F.ok sc_is_book (fun vs H Q E h => ?_) (fun cdv A outer s H vs Q E hr h => ?_)
  · obtain ⟨v, b, rfl, _⟩ := h; rfl
  · obtain ⟨v, b, rfl, hb, ok, q⟩ := h
    refine ⟨_, pss_cons (ps_try_thru0 (pss_one (ps_expr (pe_call (ok_made_book T) (hr.mono (by decide)) (by rfl) T.made_book.g T.made_book.F.kp T.made_book.b .nil pass0 (pa_cons (pv 0) pa_nil))))) (pss_one (ps_ret pe_bl)), ?_⟩
    exact ⟨_, rfl, v, b, rfl, hb, ok, fun H' e => q H' e⟩
def sp_is_bookD (K : PySem.W.Frag) (CB CS : Addr) : Sp := fun vs H Q _ => ∃ (v : V) (d : PyData) (C : Addr) (e : Int), vs = [v] ∧ Dp K H v d ∧ Ref CB CS d C e ∧ ∀ H', Ext [] H H' → Q (.bl false) H'
theorem okD_is_book (T : Tx K mg) : FnOk P w K mg base CX0 6 T.is_book.f T.is_book.fd ["thing"] (sp_is_bookD K T.x_BadBook.C T.x_Stray.C) := by
  refine T.is_book.F.ok sc_is_book (fun vs H Q E h => ?_) (fun cdv A outer s H vs Q E hr h => ?_)
  · obtain ⟨v, d, C, e, rfl, _⟩ := h; rfl
  · obtain ⟨v, d, C, e, rfl, hd, href, q⟩ := h
    refine ⟨_, pss_cons (ps_try_only (c := .ref T.r_Refused.C) (Wout := fun _ _ _ _ => False) (tb := fun W D σ H => ∃ Ech : XK, (∀ cls d σ' H', Ech cls d H' → W cls d σ' H') ∧ σ[0]? = some (some v) ∧ ∃ (d : PyData) (C : Addr) (e : Int), Dp K H v d ∧ Ref T.x_BadBook.C T.x_Stray.C d C e ∧ Outs H Ech C e)
      rfl rfl ⟨rfl, by decide, .inl T.r_Refused.g⟩ L2.takes0 (fun W pn xe tk _ => ?_) (fun a oe cls d pn hz hf => pss_one (ps_ret pe_bl))) (pss_one (ps_ret pe_bl)), ?_⟩
    · refine ⟨fun pins s' σ H' D I h' => ?_⟩
      obtain ⟨Ech, hW, h1, d, C, e, h2, h3, h4⟩ := h'
      refine (pss_one (ps_expr (pe_call (E := Ech) (okX_made_book T) (hr.mono (by decide)) (by rfl) T.made_book.g T.made_book.F.kp T.made_book.b .nil (passes_call tk fun cls d σ H h => hW cls d σ H h) (pa_cons (pv 0) pa_nil)))).run pins s' σ H' D I ?_
      exact ⟨v, h1, v, d, C, e, rfl, h2, h3, h4⟩
    · refine ⟨fun cls d H' => (cls = .ref T.x_BadBook.C ∨ cls = .ref T.x_Stray.C) ∧ Ext [] H H', fun cls d σ' H' hE => ?_, rfl, d, C, e, hd, href, fun dx H' _ _ e => ⟨?_, e⟩⟩
      · obtain ⟨hc, e⟩ := hE
        rcases hc with rfl | rfl
        · exact ⟨true, T.r_Refused.exm T.q_BadBook, fun _ a na => q H' e, fun z => by cases z⟩
        · exact ⟨true, T.r_Refused.exm T.q_Stray, fun _ a na => q H' e, fun z => by cases z⟩
      · cases href with
        | form _ => exact .inl rfl
        | stray _ _ _ => exact .inr rfl
/-! ### states by meeting -/

def sp_first_rowsO (K : PySem.W.Frag) : Sp := fun vs H Q _ => ∃ (v : V) (b : Book), vs = [v, .int 0] ∧ BkW K H v b ∧ FormB b ∧ ∀ (F : List Nat) (kvs : List (Key × V)) (d : Addr) (H' : Hp), MetO b F → kvs.map (·.1) = F.map kN → H' d = some (.dK kvs) → Ext [] H H' → Q (.ref d) H'
theorem okO_first_rows (T : Tx K mg) : FnOk P w K mg base CX0 1 T.first_rows.f T.first_rows.fd ["states", "start"] (sp_first_rowsO K) := by
  refine T.first_rows.F.ok sc_first_rows (fun vs H Q E h => ?_) (fun cdv A outer s H vs Q E hr h => ?_)
  · obtain ⟨v, b, rfl, _⟩ := h; rfl
  · obtain ⟨v, b, rfl, ⟨a, ls, rfl, ha, hls⟩, ok, q⟩ := h
    have llen := Paired.len hls
    have h8 := ok.eight
    refine ⟨_, (pss_cons (ps_set (i := 2) sc_first_rows.nd rfl (.inl rfl) (pe_disp (pps_cons (pv 1) (pe_tup pa_nil) pps_nil) (by rfl) (by rfl) (fun z => by cases z) (by decide)))
      (pss_cons (ps_set (i := 3) sc_first_rows.nd rfl (.inl rfl) (pe_lst (pa_cons (pv 1) pa_nil)))
      (pss_cons (ps_set (i := 4) sc_first_rows.nd rfl (.inl rfl) pe_int)
      (pss_cons (ps_while PassesOwn.never (pt_cmpR op_lt (pv 4) (pe_callB call_len_seq (by rfl) T.n_len PySem.boot_len (pa_cons (pv 3) pa_nil)) (nomark _))
        (pss_cons (ps_set (i := 5) sc_first_rows.nd rfl (.inl rfl) (pe_ix ix_list (pv 3) (pv 4) (fun _ _ => rfl)))
        (pss_cons (ps_aug (i := 4) sc_first_rows.nd rfl (.inl rfl) pe_int ip_add)
        (pss_one (ps_for PassesOwn.never rfl (pi_tup (pe_ix ix_tup (pv 0) (pv 5) (fun _ _ => rfl))) (pg_tup rfl (pgs_cons (pg_name (i := 6) sc_first_rows.nd rfl (.inl rfl)) (pgs_cons (pg_name (i := 7) sc_first_rows.nd rfl (.inl rfl)) pgs_nil)))
          (pss_one (ps_if (pt_cmp (pc_dnotin (hu_of hr) (pv 7) (pv 2)))
            (pss_cons (ps_dput (hu_of hr) (pv 2) (pv 7) (pe_op op_catA (pe_dget (hu_of hr) (pv 2) (pv 5) (fun _ _ => rfl)) (pe_tup (pa_cons (pv 6) pa_nil))) rfl)
            (pss_one (ps_expr (pe_bm PySem.F.plainAttrs_list PySem.F.slot_list_append PySem.F.type_list_append mt_append (pv 3) (pa_cons (pv 7) pa_nil)))))
            pss_nil)))))))
      (pss_one (ps_ret (pv 2))))))), ?_⟩
    -- rows = {0: ()}
    refine fun d hd => ⟨_, rfl, Nat.zero_le _, fun t ht => ?_⟩
    have e1 : Ext [] H (upd H d (.dK [])) := .new hd
    have e2 := e1.trans (Ext.new (L := []) (o := .tup []) ht)
    have dt : d ≠ t := fun z => by rw [← z, upd_same] at ht; cases ht
    refine ⟨by rw [upd_ne dt, upd_same], [(kN 0, .ref t)], rfl, (by show 1 ≤ 15; decide), ?_⟩
    have e3 := e2.put (o := .dK (mergeK [] [(kN 0, .ref t)])) hd
    have hd3 : upd (upd (upd H d (.dK [])) t (.tup [])) d (.dK (mergeK [] [(kN 0, .ref t)])) d = some (.dK [(kN 0, .ref t)]) := upd_same
    have ht3 : upd (upd (upd H d (.dK [])) t (.tup [])) d (.dK (mergeK [] [(kN 0, .ref t)])) t = some (.tup []) := by rw [upd_ne dt.symm, upd_same]
    generalize upd (upd (upd H d (.dK [])) t (.tup [])) d (.dK (mergeK [] [(kN 0, .ref t)])) = H3 at *
    -- order = [0]
    refine ⟨_, rfl, (by show 1 ≤ sizeLine; decide), fun o ho => ?_⟩
    have ho0 : H o = none := e3.free ho
    have od : d ≠ o := ne_of_none hd3 ho
    have e4 := e3.put2 (o := .lst [.int 0]) ho
    -- the loop
    let Row : Hp → Nat → V → Prop := fun H' m v => ∃ (x : Addr) (xs : List V), v = .ref x ∧ SqT K H' x xs ∧ xs.length ≤ m
    refine ⟨fun m σ H' => ∃ (F : List Nat) (kvs : List (Key × V)) (i : Nat) (y4 y5 y6 : Option V), σ = [some (.ref a), some (.int 0), some (.ref d), some (.ref o), some (.int i), y4, y5, y6] ∧ MetIO b F i ∧ m = b.length - i ∧ H' o = some (.lst (F.map nV)) ∧ H' d = some (.dK kvs) ∧ kvs.map (·.1) = F.map kN ∧ (∀ e ∈ kvs, Row H' F.length e.2) ∧ Ext [] H H',
      ⟨_, [0], [(kN 0, .ref t)], 0, _, _, _, rfl, .first ok.one, rfl, upd_same, by rw [upd_ne od]; exact hd3, rfl, fun e he => ?_, e4⟩, ?_⟩
    · obtain rfl := List.mem_singleton.mp he
      have ot : t ≠ o := ne_of_none ht3 ho
      exact ⟨t, [], rfl, .of (by rw [upd_ne ot]; exact ht3), Nat.zero_le _⟩
    rintro m σ H' ⟨F, kvs, i, y4, y5, y6, rfl, mi, rfl, hF, hD, hk, hrow, e⟩
    have Fle : F.length ≤ b.length := nodup_le mi.nd mi.lt
    refine ⟨_, rfl, _, rfl, o, _, rfl, .inl (.of hF), _, _, rfl, rfl, _, rfl, ite2 (fun z => ?_) (fun z => ?_)⟩
    · have z := of_decide_eq_true z
      rw [List.length_map] at z
      have hiF : i < F.length := by omega
      have hs : F[i]? = some F[i] := List.getElem?_eq_getElem hiF
      generalize F[i] = x at hs
      have gx : (stB b i)[i]? = some x := by rw [← mi.eq]; exact hs
      have hx : x < b.length := mi.lt x (List.mem_of_getElem? hs)
      obtain ⟨u, hu, c, ps, rfl, hc, hps⟩ := Paired.get hls (mvs_lt hx)
      have plen := Paired.len hps
      refine ⟨fun σ H' => ∃ (F : List Nat) (kvs : List (Key × V)) (y4 y5 y6 : Option V), σ = [some (.ref a), some (.int 0), some (.ref d), some (.ref o), some (.int (i + 1 : Nat)), y4, y5, y6] ∧ MetIO b F (i + 1) ∧ H' o = some (.lst (F.map nV)) ∧ H' d = some (.dK kvs) ∧ kvs.map (·.1) = F.map kN ∧ (∀ e ∈ kvs, Row H' F.length e.2) ∧ Ext [] H H', ?_, ?_⟩
      · rintro σ' H' ⟨F, kvs, y4, y5, y6, rfl, mi, r⟩
        exact ⟨b.length - (i + 1), by omega, F, kvs, i + 1, _, _, _, rfl, mi, rfl, r⟩
      refine ⟨_, rfl, _, rfl, o, _, _, _, rfl, rfl, .of hF, atI_nat (at_map hs), ?_⟩
      refine ⟨_, rfl, _, _, rfl, rfl, ?_⟩
      refine ⟨_, rfl, _, rfl, a, _, _, _, rfl, rfl, e.tup Lsts.nil ha, atI_nat hu, c, rfl, ⟨_, (e.tup Lsts.nil hc)⟩, ?_⟩
      refine for_tup (K := K) (a := c) (xs := ps.map V.ref) (fun k σ H' => ∃ (F : List Nat) (kvs : List (Key × V)) (y5 y6 : Option V), σ = [some (.ref a), some (.int 0), some (.ref d), some (.ref o), some (.int ((i : Int) + 1)), some (nV x), y5, y6] ∧ MetWO b F i x k ∧ H' o = some (.lst (F.map nV)) ∧ H' d = some (.dK kvs) ∧ kvs.map (·.1) = F.map kN ∧ (∀ e ∈ kvs, Row H' F.length e.2) ∧ Ext [] H H')
        ⟨F, kvs, _, _, rfl, mi.begin hs, hF, hD, hk, hrow, e⟩ (fun k σ H' _ ⟨_, _, _, _, _, _, _, _, _, _, e⟩ => (e.tup Lsts.nil hc)) ?_ ?_
      · rintro k v σ H' hv ⟨F, kvs, y5, y6, rfl, mw, hF, hD, hk, hrow, e⟩
        obtain ⟨g, hg, rfl⟩ := map_at hv
        obtain ⟨p, hp, hcp⟩ := Paired.get' hps hg
        have hcp := hcp.ext0 e
        have Fle : F.length ≤ b.length := nodup_le mw.nd mw.lt
        have pb : p.2 < b.length := ok.to (List.mem_of_getElem? hp)
        refine ⟨g, _, rfl, hcp, rfl, _, _, rfl, _, _, rfl, rfl, ?_⟩
        refine ⟨_, rfl, _, rfl, d, _, rfl, DGet.k (k := kN p.2) hD, _, rfl, ?_⟩
        rw [valV_key hk]
        by_cases hin : p.2 ∈ F
        · rw [decide_eq_true hin]
          exact iteF ⟨F, kvs, _, _, rfl, mw.skip hp hin, hF, hD, hk, hrow, e⟩
        · rw [decide_eq_false hin]
          refine iteT ?_
          -- rows[state] + (message,)
          have xin : x ∈ F := List.mem_of_getElem? mw.here
          have hsome : (valV kvs (kN x)).isSome = true := by rw [valV_key hk]; exact decide_eq_true xin
          obtain ⟨rv, hrv⟩ := Option.isSome_iff_exists.mp hsome
          obtain ⟨r, rs, er, hr1, hr2⟩ := hrow _ (valV_mem hrv)
          have er : rv = .ref r := er
          subst er
          have newk : valV kvs (kN p.2) = none := by
            have := valV_key hk p.2
            rw [decide_eq_false hin] at this
            cases h : valV kvs (kN p.2) with
            | none => rfl
            | some z => rw [h] at this; cases this
          have klen : kvs.length = F.length := by have := congrArg List.length hk; simpa using this
          -- behind the new row: the dict, the list
          have fin : ∀ (nr : Addr) (ys : List V) (H4 : Hp), Ext [] H' H4 → SqT K H4 nr ys → ys.length ≤ F.length + 1 → ∃ H5, DPut H4 d (.int p.2) (.ref nr) H5 ∧
              ∃ q5 : H5 = upd H4 d (.dK (kvs ++ [(kN p.2, .ref nr)])), H5 o = some (.lst (F.map nV)) ∧ H5 d = some (.dK (kvs ++ [(kN p.2, .ref nr)])) ∧ (∀ e ∈ kvs ++ [(kN p.2, .ref nr)], Row H5 (F.length + 1) e.2) ∧ Ext [] H H5 := by
            intro nr ys H4 e4 hn hl
            have hD4 := e4.at hD (by simp)
            have hF4 := e4.at hF (by simp)
            refine ⟨_, DPut.k (k := kN p.2) hD4 (small1000 (by omega)), by rw [putK_new _ newk], ?_⟩
            rw [putK_new _ newk]
            have ee : Ext [d] H4 (upd H4 d (.dK (kvs ++ [(kN p.2, .ref nr)]))) := .wr (by simp)
            refine ⟨by rw [upd_ne od.symm]; exact hF4, upd_same, fun z hz => ?_, (e.trans e4).put hd⟩
            rcases List.mem_append.mp hz with hz | hz
            · obtain ⟨x, xs, h1, h2, h3⟩ := hrow z hz
              exact ⟨x, xs, h1, ee.tup (one_dk hD4) (e4.tup Lsts.nil h2), by omega⟩
            · obtain rfl := List.mem_singleton.mp hz
              exact ⟨nr, ys, rfl, ee.tup (one_dk hD4) hn, hl⟩
          have last : ∀ (nr : Addr) (H5 : Hp), H5 o = some (.lst (F.map nV)) → H5 d = some (.dK (kvs ++ [(kN p.2, .ref nr)])) → (∀ e ∈ kvs ++ [(kN p.2, .ref nr)], Row H5 (F.length + 1) e.2) → Ext [] H H5 →
              ∃ (F' : List Nat) (kvs' : List (Key × V)) (y5 y6 : Option V), [some (.ref a), some (.int 0), some (.ref d), some (.ref o), some (.int ((i : Int) + 1)), some (nV x), some (.int p.1), some (.int p.2)] = [some (.ref a), some (.int 0), some (.ref d), some (.ref o), some (.int ((i : Int) + 1)), some (nV x), y5, y6] ∧
                MetWO b F' i x (k + 1) ∧ upd H5 o (.lst (F.map nV ++ [.int p.2])) o = some (.lst (F'.map nV)) ∧ upd H5 o (.lst (F.map nV ++ [.int p.2])) d = some (.dK kvs') ∧ kvs'.map (·.1) = F'.map kN ∧ (∀ e ∈ kvs', Row (upd H5 o (.lst (F.map nV ++ [.int p.2]))) F'.length e.2) ∧ Ext [] H (upd H5 o (.lst (F.map nV ++ [.int p.2]))) := by
            intro nr H5 h1 h2 h3 h4
            refine ⟨F ++ [p.2], kvs ++ [(kN p.2, .ref nr)], _, _, rfl, mw.push hp hin pb, by rw [upd_same, List.map_append]; rfl, by rw [upd_ne od]; exact h2, by rw [List.map_append, List.map_append, hk]; rfl, fun z hz => ?_, h4.put ho0⟩
            obtain ⟨x, xs, g1, g2, g3⟩ := h3 z hz
            exact ⟨x, xs, g1, Ext.tup (L := [o]) (.wr (by simp)) (one_lst h1) g2, by rw [List.length_append]; exact g3⟩
          refine ⟨_, rfl, _, rfl, d, _, rfl, by rw [← hrv]; exact DGet.k (k := kN x) hD, _, rfl, (by show 1 ≤ sizeLine; decide), fun g2 hg2 => ?_⟩
          have e5 : Ext [] H' (upd H' g2 (.tup [.int p.1])) := .new hg2
          refine ⟨r, g2, rs, _, rfl, rfl, e5.tup Lsts.nil hr1, .of upd_same, ?_, fun h0 => ?_, fun _ h0 => (by cases h0), fun _ _ g3 hg3 => ?_⟩
          · show rs.length + 1 ≤ sizeLine
            exact Nat.le_of_lt (small1000 (by omega))
          · obtain ⟨H5, dp, _, f1, f2, f3, f4⟩ := fin g2 [.int p.1] _ e5 (.of upd_same) (by simp)
            refine ⟨_, rfl, _, rfl, d, H5, rfl, dp, ?_⟩
            exact ⟨_, rfl, .inl ⟨rfl, _, .of f1⟩, _, rfl, o, _, _, rfl, rfl, f1, by rw [List.length_map]; exact small1000 (by omega), last g2 H5 f1 f2 f3 f4⟩
          · obtain ⟨H5, dp, _, f1, f2, f3, f4⟩ := fin g3 (rs ++ [.int p.1]) _ (e5.put2 hg3) (.of upd_same) (by rw [List.length_append]; show rs.length + 1 ≤ _; omega)
            refine ⟨_, rfl, _, rfl, d, H5, rfl, dp, ?_⟩
            exact ⟨_, rfl, .inl ⟨rfl, _, .of f1⟩, _, rfl, o, _, _, rfl, rfl, f1, by rw [List.length_map]; exact small1000 (by omega), last g3 H5 f1 f2 f3 f4⟩
      · rintro σ H' ⟨F, kvs, y5, y6, rfl, mw, hF, hD, hk, hrow, e⟩
        exact ⟨F, kvs, _, _, _, by rw [Int.natCast_add]; rfl, mw.done gx (by rw [List.length_map, plen]; exact Nat.le_refl _), hF, hD, hk, hrow, e⟩
    · have z : ¬ ((i : Int) < ((F.map nV).length : Int)) := fun y => z (decide_eq_true y)
      rw [List.length_map] at z
      have := mi.le
      exact ⟨_, rfl, q F kvs d H' (mi.met (by omega)) hk hD e⟩

theorem sc_by_meeting : FnScope ["states", "order", "number", "k", "state", "message", "to"] ["states"] (defScope s_by_meeting) := ⟨rfl, rfl, rfl, by decide +kernel, rfl, by decide +kernel, by decide +kernel⟩
def sp_by_meeting (K : PySem.W.Frag) : Sp := fun vs H Q _ => ∃ (v : V) (b : Book), vs = [v] ∧ BkW K H v b ∧ FormB b ∧ ∀ (v' : V) (H' : Hp), BkV K H' v' (rename b (ordB b)) → Ext [] H H' → Q v' H'
theorem ok_by_meeting (T : Tx K mg) : FnOk P w K mg base CX0 3 T.by_meeting.f T.by_meeting.fd ["states"] (sp_by_meeting K) := by
  refine T.by_meeting.F.ok sc_by_meeting (fun vs H Q E h => ?_) (fun cdv A outer s H vs Q E hr h => ?_)
  · obtain ⟨v, b, rfl, _⟩ := h; rfl
  · obtain ⟨v, b, rfl, hw, fb, q⟩ := h
    obtain ⟨m, ls, rfl, hm, hls⟩ := id hw
    have h8 := fb.eight
    refine ⟨_, (pss_cons (ps_set (i := 1) sc_by_meeting.nd rfl (.inl rfl) (pe_callTy (call_list_dK rfl) (by rfl) T.n_list (by decide +kernel) (pa_cons (pe_call (okO_first_rows T) (hr.mono (by decide)) (by rfl) T.first_rows.g T.first_rows.F.kp T.first_rows.bD.choose_spec.2 T.first_rows.bD.choose_spec.1 pass0 (pa_cons (pv 0) pa_nil)) pa_nil)))
      (pss_cons (ps_set (i := 2) sc_by_meeting.nd rfl (.inr rfl) (pe_dc (own := [("k", 3), ("state", 4)]) rfl sc_by_meeting.nd (pi_enum (by rfl) T.n_enumerate (pa_cons (pv 1) pa_nil)) (blkOk_by (own := [("k", 3), ("state", 4)]) (N := ["states", "order", "number", "k", "state", "message", "to"]) (sc := defScope s_by_meeting) (by decide +kernel)) (fun _ _ _ _ _ => (pg_tupK (n := 2) K rfl (pgs_cons (pg_name (i := 3) sc_by_meeting.nd rfl (.inl rfl)) (pgs_cons (pg_name (i := 4) sc_by_meeting.nd rfl (.inl rfl)) pgs_nil)))) (fun _ _ _ _ _ => pts_nil) (fun _ _ _ _ _ => (pv 4)) (fun _ _ _ _ _ => (pv 3))))
      (pss_one (ps_ret (pe_callTy call_tupZ (by rfl) T.n_tuple (by decide +kernel) (pa_cons (pe_lc (own := [("state", 4)]) rfl sc_by_meeting.nd (pi_list (pv 1)) (blkOk_by (own := [("state", 4)]) (N := ["states", "order", "number", "k", "state", "message", "to"]) (sc := defScope s_by_meeting) (by decide +kernel)) (fun _ _ _ _ _ => (pg_name (i := 4) sc_by_meeting.nd rfl (.inl rfl))) (fun _ _ _ _ _ => pts_nil) (fun _ _ _ _ _ => (pe_callTy (call_tupZK K) (by rfl) T.n_tuple (by decide +kernel) (pa_cons (pe_lc (own := [("message", 5), ("to", 6)]) rfl sc_by_meeting.nd (pi_tupK K (pe_ix (ix_tupK K) (pv 0) (pv 4) (fun _ _ => rfl))) (blkOk_by (own := [("message", 5), ("to", 6)]) (by kernel_rfl)) (fun _ _ _ _ _ => (pg_tupK (n := 2) K rfl (pgs_cons (pg_name (i := 5) sc_by_meeting.nd rfl (.inl rfl)) (pgs_cons (pg_name (i := 6) sc_by_meeting.nd rfl (.inl rfl)) pgs_nil)))) (fun _ _ _ _ _ => pts_nil) (fun _ _ _ _ _ => (pe_tup (pa_cons (pv 5) (pa_cons (pe_dget (hu_of hr) (pv 2) (pv 6) (fun _ _ => rfl)) pa_nil))))) pa_nil)))) pa_nil)))))), ?_⟩
    refine ⟨_, rfl, _, b, rfl, hw, fb, fun F kvs d H1 mo hk hd e1 => ⟨d, kvs, rfl, hd, fun f hf => ?_⟩⟩
    have eF : (kvs.map fun kv => kV kv.1) = F.map nV := by
      have : (kvs.map fun kv => kV kv.1) = (kvs.map (·.1)).map kV := by rw [List.map_map]; rfl
      rw [this, hk, List.map_map]
      rfl
    rw [eF]
    have ef : Ext [] H1 (upd H1 f (.lst (F.map nV))) := .new hf
    have hF2 : upd H1 f (.lst (F.map nV)) f = some (.lst (F.map nV)) := upd_same
    have e2 := e1.trans ef
    clear hf ef
    generalize upd H1 f (.lst (F.map nV)) = H2 at *
    have hl8 : F.length ≤ 8 := Nat.le_trans (nodup_le mo.nd mo.lt) h8
    -- number = {state: k ..}
    refine ⟨_, rfl, f, _, rfl, .of hF2, fun N hN => ?_⟩
    refine dc_it (walk_enum (K := K) (a := f) (xs := F.map nV)) (fun i H' => H' N = some (.dK (placesK (F.take i))) ∧ Ext [] H2 H') ⟨by simp [placesK]; exact upd_same, .new hN⟩ (fun i H' _ ⟨_, e⟩ => .of (e.at hF2 (by simp))) ?_ ?_
    · rintro i v H3 H' hi ⟨hX, e⟩ ⟨t, x, y, rfl, nt, rfl, hx, hy⟩
      cases hx
      obtain ⟨s, hs, rfl⟩ := map_at (show (F.map nV)[i]? = some y from hy)
      have e3 := e.put2 (o := .tup [.int i, nV s]) nt
      have hX3 : upd H3 t (.tup [.int i, nV s]) N = _ := (upd_ne (ne_of_none hX nt)).trans hX
      have hiF : i < F.length := (List.getElem?_eq_some_iff.mp hs).1
      refine ⟨t, _, rfl, .of upd_same, rfl, _, _, rfl, _, _, rfl, rfl, rfl, yes ?_⟩
      refine ⟨_, rfl, _, rfl, placesK (F.take i), kN s, rfl, hX3, ?_, ?_, e3.put hN⟩
      · rw [placesK_len, List.length_take]
        exact small1000 (by omega)
      · have hnew : s ∉ F.take i := fun z => by
          obtain ⟨j, hj, ej⟩ := List.mem_iff_getElem.mp z
          rw [List.getElem_take] at ej
          rw [List.length_take] at hj
          have a1 := idx_of mo.nd hs
          have a2 := idx_of mo.nd (j := j) (s := s) (by rw [List.getElem?_eq_getElem (by omega), ej])
          omega
        have hp := placesK_put hnew
        rw [List.length_take, Nat.min_eq_left (Nat.le_of_lt hiF)] at hp
        rw [upd_same, List.take_add_one, hs]
        exact congrArg (fun z => some (HO.dK z)) hp
    · rintro H3 ⟨hN3, e3⟩
      rw [List.length_map, List.take_length] at hN3
      have hF3 := e3.at hF2 (by simp)
      have f3 := e2.trans e3
      have hw3 := hw.ext0 f3
      clear hN
      -- the new book
      refine ⟨_, rfl, f, rfl, ⟨_, .of hF3⟩, fun D hD => ?_⟩
      have fD : f ≠ D := ne_of_none hF3 hD
      have ND : N ≠ D := ne_of_none hN3 hD
      have hDH : H D = none := f3.free hD
      refine lc_list (K := K) (a := f) (xs := F.map nV) (fun i H' => ∃ vs : List V, H' D = some (.lst vs) ∧ Paired (StV K H') vs ((rename b F).take i) ∧ Ext [] H H' ∧ H' f = some (.lst (F.map nV)) ∧ H' N = some (.dK (placesK F))) ⟨[], upd_same, .nil, f3.put2 hD, by rw [upd_ne fD]; exact hF3, by rw [upd_ne ND]; exact hN3⟩ (fun i H' _ ⟨_, _, _, _, h, _⟩ => .of h) ?_ ?_
      · rintro i v H' hv ⟨vs, hDv, hpd, e, hF', hN'⟩
        obtain ⟨x, hx, rfl⟩ := map_at hv
        have hxb : x < b.length := mo.lt x (List.mem_of_getElem? hx)
        obtain ⟨u, hu, a, ps, rfl, ha, hps⟩ := Paired.get hls (mvs_lt hxb)
        have plen : ps.length = (mvs b x).length := Paired.len hps
        have five := (fb.ok hxb).few
        refine ⟨rfl, yes ?_⟩
        refine ⟨_, rfl, _, rfl, m, _, _, _, rfl, rfl, e.tup Lsts.nil hm, atI_nat hu, a, rfl, ⟨_, e.tup Lsts.nil ha⟩, fun D2 hD2 => ?_⟩
        have hD2H : H D2 = none := e.free hD2
        have n1 : D ≠ D2 := ne_of_none hDv hD2
        have n2 : f ≠ D2 := ne_of_none hF' hD2
        refine lc_tup (K := K) (a := a) (xs := ps.map V.ref) (fun k H2 => ∃ qs : List Addr, H2 D2 = some (.lst (qs.map V.ref)) ∧ Paired (MvV K H2) qs (((mvs b x).take k).map fun p => (p.1, F.idxOf p.2)) ∧ Ext [] H' H2) ⟨[], upd_same, .nil, .new hD2⟩ (fun k H2 _ ⟨_, _, _, e2⟩ => (e.trans e2).tup Lsts.nil ha) ?_ ?_
        · rintro k v H2 hv ⟨qs, hq, hqp, e2⟩
          obtain ⟨c, hc, rfl⟩ := map_at hv
          obtain ⟨p, hp, hcp⟩ := Paired.get' hps hc
          have hcp := hcp.ext0 (e.trans e2)
          have hN2 := e2.at hN' (by simp)
          have pin : p.2 ∈ F := mo.cl x (List.mem_of_getElem? hx) p (List.mem_of_getElem? hp)
          refine ⟨c, _, rfl, hcp, rfl, _, _, rfl, _, _, rfl, rfl, rfl, yes ?_⟩
          refine ⟨_, rfl, _, rfl, _, rfl, N, nV (F.idxOf p.2), rfl, by rw [← placesK_val mo.nd pin]; exact DGet.k (k := kN p.2) hN2, ?_⟩
          refine ⟨(by show 2 ≤ sizeLine; decide), fun t ht => ?_⟩
          have tD2 : D2 ≠ t := ne_of_none hq ht
          have e3 : Ext [] H2 (upd H2 t (.tup [.int p.1, .int (F.idxOf p.2 : Nat)])) := .new ht
          refine ⟨_, e3.at hq (by simp), ?_, qs ++ [t], by rw [upd_same, List.map_append]; rfl, ?_, (e2.trans e3).put hD2⟩
          · rw [List.length_map, Paired.len hqp, List.length_map, List.length_take]
            exact small1000 (by omega)
          · rw [List.take_add_one, hp, List.map_append]
            refine Paired.snoc ?_ (Paired.imp hqp fun _ _ z => (z.ext0 e3).put (e3.at hq (by simp)))
            exact MvV.put (m := (p.1, F.idxOf p.2)) (.of upd_same) (e3.at hq (by simp))
        · rintro H2 ⟨qs, hq, hqp, e2⟩
          have ek : (mvs b x).take (ps.map V.ref).length = mvs b x := List.take_of_length_le (by rw [List.length_map, plen]; exact Nat.le_refl _)
          rw [ek] at hqp
          refine ⟨D2, _, rfl, .of hq, fun t H3 ht hH3 => ?_⟩
          obtain ⟨o, od, rfl⟩ := hH3
          have e3 : Ext [] H2 (upd H2 t (.frz o (.tup (qs.map V.ref)))) := .new ht
          have e4 := e2.trans e3
          refine ⟨vs, e4.at hDv (by simp), ?_, vs ++ [.ref t], upd_same, ?_, (e.trans e4).put hDH, by rw [upd_ne fD]; exact e4.at hF' (by simp), by rw [upd_ne ND]; exact e4.at hN' (by simp)⟩
          · rw [Paired.len hpd, List.length_take]
            exact small1000 (by rw [rename_len]; omega)
          · have hr' : (rename b F)[i]? = some ((mvs b x).map fun p => (p.1, F.idxOf p.2)) := by
              unfold rename
              rw [List.getElem?_map, hx]
              rfl
            rw [List.take_add_one, hr']
            have hDe := e4.at hDv (by simp)
            refine Paired.snoc ?_ (Paired.imp hpd fun _ _ z => (z.ext0 e4).put hDe)
            exact StV.put ⟨t, qs, rfl, ⟨o, upd_same, od⟩, Paired.imp hqp fun _ _ z => z.ext0 e3⟩ hDe
      · rintro H' ⟨vs, hDv, hpd, e, hF', _⟩
        refine ⟨D, vs, rfl, .of hDv, fun t H3 ht hH3 => ?_⟩
        obtain ⟨o, od, rfl⟩ := hH3
        have e3 : Ext [] H' (upd H' t (.frz o (.tup vs))) := .new ht
        have ek : (rename b F).take (F.map nV).length = rename b F := List.take_of_length_le (by rw [List.length_map, rename_len]; exact Nat.le_refl _)
        rw [ek, mo.eq] at hpd
        exact q _ _ ⟨t, vs, rfl, .inl (.inr ⟨o, upd_same⟩), Paired.imp hpd fun _ _ z => z.ext0 e3⟩ (e.trans e3)
theorem FnOk.calmT {P : Program} {w : World} {K : PySem.W.Frag} {mg : Str → Option Value} {base : Heap} {k : Nat} {f : Addr} {fd : FuncData} {ps : List Str} {sp : Sp} (F : FnOk P w K mg base (L2.CX P w) k f fd ps sp) : FnOk P w K mg base CX0 k f fd ps (fun vs H Q _ => sp vs H Q fun _ _ _ => False) :=
  ⟨fun vs H Q E h => F.len vs H Q _ h, fun A outer s H args us vs Q E a b c d h => codeAny_mono (F.run A outer s H args us vs Q _ a b c d h) fun r s' z => by
    cases r with
    | error e =>
      obtain ⟨_, _, _, _, _, _, _, _, _, _, _, _, x⟩ := z
      exact x.elim
    | ok fl => cases fl <;> exact z⟩
theorem dp_stsB {K : PySem.W.Frag} {H : Hp} : ∀ {vs : List V} {b : Book}, Paired (StW K H) vs b → DpAll K H vs (b.map stD)
  | _, _, .nil => .nil
  | _, _, .cons r t => by
    obtain ⟨c, ps, rfl, h1, h2⟩ := r
    exact .cons (.tup h1 (dp_mvs h2)) (dp_stsB t)
theorem BkW.dp {K : PySem.W.Frag} {H : Hp} {v : V} {b : Book} (h : BkW K H v b) : Dp K H v (bookD b) := by
  obtain ⟨a, vs, rfl, h1, h2⟩ := h
  exact .tup h1 (dp_stsB h2)

theorem okC_check_form (T : Tx K mg) : FnOk P w K mg base CX0 4 T.check_form.f T.check_form.fd ["thing"] (fun vs H Q _ => sp_check_formX K T.x_BadBook.C vs H Q fun _ _ _ => False) := FnOk.calmT (okX_check_form T)
theorem sc_trimmed : FnScope ["thing"] ["thing"] (defScope s_trimmed) := ⟨rfl, rfl, rfl, by decide +kernel, rfl, by decide +kernel, by decide +kernel⟩
def sp_trimmed (K : PySem.W.Frag) : Sp := sp_by_meeting K
theorem ok_trimmed (T : Tx K mg) : FnOk P w K mg base CX0 5 T.trimmed.f T.trimmed.fd ["thing"] (sp_trimmed K) := by
  refine T.trimmed.F.ok sc_trimmed (fun vs H Q E h => ?_) (fun cdv A outer s H vs Q E hr h => ?_)
  · obtain ⟨v, b, rfl, _⟩ := h; rfl
  · obtain ⟨v, b, rfl, hw, fb, q⟩ := h
    refine ⟨_, (pss_cons (ps_expr (pe_call (okC_check_form T) (hr.mono (by decide)) (by rfl) T.check_form.g T.check_form.F.kp T.check_form.b .nil pass0 (pa_cons (pv 0) pa_nil)))
      (pss_one (ps_ret (pe_call (ok_by_meeting T) (hr.mono (by decide)) (by rfl) T.by_meeting.g T.by_meeting.F.kp T.by_meeting.b .nil pass0 (pa_cons (pv 0) pa_nil))))), ?_⟩
    exact ⟨_, rfl, v, bookD b, rfl, hw.dp, fun _ => ⟨_, rfl, v, b, rfl, hw, fb, q⟩, fun e he => (by rw [form_none fb] at he; cases he)⟩
def sp_trimmedX (K : PySem.W.Frag) (CB : Addr) : Sp := fun vs H _ E => ∃ (v : V) (d : PyData) (e : Int), vs = [v] ∧ Dp K H v d ∧ formErr d = some e ∧ Outs H E CB e
theorem okX_trimmed (T : Tx K mg) : FnOk P w K mg base (L2.CX P w) 5 T.trimmed.f T.trimmed.fd ["thing"] (sp_trimmedX K T.x_BadBook.C) := by
  refine T.trimmed.F.okX sc_trimmed (fun vs H Q E h => ?_) (fun cdv A outer s H vs Q E hr h => ?_)
  · obtain ⟨v, d, e, rfl, _⟩ := h; rfl
  · obtain ⟨v, d, e, rfl, hd, he, q⟩ := h
    refine ⟨_, (pss_cons (ps_expr (pe_call (okX_check_form T) (hr.mono (by decide)) (by rfl) T.check_form.g T.check_form.F.kp T.check_form.b .nil (passes_call (takes_of rfl rfl rfl rfl) (fun _ _ _ _ h => h)) (pa_cons (pv 0) pa_nil)))
      (PSs.nox (pss_one (ps_ret (pe_call (ok_by_meeting T) (hr.mono (by decide)) (by rfl) T.by_meeting.g T.by_meeting.F.kp T.by_meeting.b .nil pass0 (pa_cons (pv 0) pa_nil)))))), ?_⟩
    exact ⟨_, rfl, v, d, rfl, hd, fun h => (by rw [he] at h; cases h), fun e2 he2 dx nd => (by rw [he] at he2; cases he2; exact q dx _ nd ⟨_, upd_same⟩ (.new nd))⟩
end
end Nv
set_option Elab.async false
set_option linter.all false
set_option maxRecDepth 100000
namespace Nv
open PySem PySem.Spec PyProof.Rows L2
section
variable {P : Program} {w : World} {K : PySem.W.Frag} {mg : Str → Option Value} {base : Heap}
/-! ### states in a list -/
/-- a book as a list of states -/
def BkS (K : PySem.W.Frag) (H : Hp) (v : V) (b : Book) : Prop := ∃ (a : Addr) (vs : List V), v = .ref a ∧ SqL K H a vs ∧ Paired (StW K H) vs b
theorem BkS.ext0 {K : PySem.W.Frag} {H H' : Hp} {v : V} {b : Book} (h : BkS K H v b) (e : Ext [] H H') : BkS K H' v b := by
  obtain ⟨a, vs, rfl, h1, h2⟩ := h
  exact ⟨a, vs, rfl, e.frz (by simp) h1, Paired.imp h2 fun _ _ z => by obtain ⟨c, ps, rfl, h3, h4⟩ := z; exact ⟨c, ps, rfl, e.tup Lsts.nil h3, Paired.imp h4 fun _ _ q => e.tup Lsts.nil q⟩⟩
/-! ### states by meeting, in a list -/

def sp_first_rowsS (K : PySem.W.Frag) : Sp := fun vs H Q _ => ∃ (v : V) (b : Book), vs = [v, .int 0] ∧ BkS K H v b ∧ FormB b ∧ ∀ (F : List Nat) (kvs : List (Key × V)) (d : Addr) (H' : Hp), MetO b F → kvs.map (·.1) = F.map kN → H' d = some (.dK kvs) → Ext [] H H' → Q (.ref d) H'
theorem okS_first_rows (T : Tx K mg) : FnOk P w K mg base CX0 1 T.first_rows.f T.first_rows.fd ["states", "start"] (sp_first_rowsS K) := by
  refine T.first_rows.F.ok sc_first_rows (fun vs H Q E h => ?_) (fun cdv A outer s H vs Q E hr h => ?_)
  · obtain ⟨v, b, rfl, _⟩ := h; rfl
  · obtain ⟨v, b, rfl, ⟨a, ls, rfl, ha, hls⟩, ok, q⟩ := h
    have llen := Paired.len hls
    have h8 := ok.eight
    refine ⟨_, (pss_cons (ps_set (i := 2) sc_first_rows.nd rfl (.inl rfl) (pe_disp (pps_cons (pv 1) (pe_tup pa_nil) pps_nil) (by rfl) (by rfl) (fun z => by cases z) (by decide)))
      (pss_cons (ps_set (i := 3) sc_first_rows.nd rfl (.inl rfl) (pe_lst (pa_cons (pv 1) pa_nil)))
      (pss_cons (ps_set (i := 4) sc_first_rows.nd rfl (.inl rfl) pe_int)
      (pss_cons (ps_while PassesOwn.never (pt_cmpR op_lt (pv 4) (pe_callB call_len_seq (by rfl) T.n_len PySem.boot_len (pa_cons (pv 3) pa_nil)) (nomark _))
        (pss_cons (ps_set (i := 5) sc_first_rows.nd rfl (.inl rfl) (pe_ix ix_list (pv 3) (pv 4) (fun _ _ => rfl)))
        (pss_cons (ps_aug (i := 4) sc_first_rows.nd rfl (.inl rfl) pe_int ip_add)
        (pss_one (ps_for PassesOwn.never rfl (pi_tup (pe_ix ix_list (pv 0) (pv 5) (fun _ _ => rfl))) (pg_tup rfl (pgs_cons (pg_name (i := 6) sc_first_rows.nd rfl (.inl rfl)) (pgs_cons (pg_name (i := 7) sc_first_rows.nd rfl (.inl rfl)) pgs_nil)))
          (pss_one (ps_if (pt_cmp (pc_dnotin (hu_of hr) (pv 7) (pv 2)))
            (pss_cons (ps_dput (hu_of hr) (pv 2) (pv 7) (pe_op op_catA (pe_dget (hu_of hr) (pv 2) (pv 5) (fun _ _ => rfl)) (pe_tup (pa_cons (pv 6) pa_nil))) rfl)
            (pss_one (ps_expr (pe_bm PySem.F.plainAttrs_list PySem.F.slot_list_append PySem.F.type_list_append mt_append (pv 3) (pa_cons (pv 7) pa_nil)))))
            pss_nil)))))))
      (pss_one (ps_ret (pv 2))))))), ?_⟩
    -- rows = {0: ()}
    refine fun d hd => ⟨_, rfl, Nat.zero_le _, fun t ht => ?_⟩
    have e1 : Ext [] H (upd H d (.dK [])) := .new hd
    have e2 := e1.trans (Ext.new (L := []) (o := .tup []) ht)
    have dt : d ≠ t := fun z => by rw [← z, upd_same] at ht; cases ht
    refine ⟨by rw [upd_ne dt, upd_same], [(kN 0, .ref t)], rfl, (by show 1 ≤ 15; decide), ?_⟩
    have e3 := e2.put (o := .dK (mergeK [] [(kN 0, .ref t)])) hd
    have hd3 : upd (upd (upd H d (.dK [])) t (.tup [])) d (.dK (mergeK [] [(kN 0, .ref t)])) d = some (.dK [(kN 0, .ref t)]) := upd_same
    have ht3 : upd (upd (upd H d (.dK [])) t (.tup [])) d (.dK (mergeK [] [(kN 0, .ref t)])) t = some (.tup []) := by rw [upd_ne dt.symm, upd_same]
    generalize upd (upd (upd H d (.dK [])) t (.tup [])) d (.dK (mergeK [] [(kN 0, .ref t)])) = H3 at *
    -- order = [0]
    refine ⟨_, rfl, (by show 1 ≤ sizeLine; decide), fun o ho => ?_⟩
    have ho0 : H o = none := e3.free ho
    have od : d ≠ o := ne_of_none hd3 ho
    have e4 := e3.put2 (o := .lst [.int 0]) ho
    -- the loop
    let Row : Hp → Nat → V → Prop := fun H' m v => ∃ (x : Addr) (xs : List V), v = .ref x ∧ SqT K H' x xs ∧ xs.length ≤ m
    refine ⟨fun m σ H' => ∃ (F : List Nat) (kvs : List (Key × V)) (i : Nat) (y4 y5 y6 : Option V), σ = [some (.ref a), some (.int 0), some (.ref d), some (.ref o), some (.int i), y4, y5, y6] ∧ MetIO b F i ∧ m = b.length - i ∧ H' o = some (.lst (F.map nV)) ∧ H' d = some (.dK kvs) ∧ kvs.map (·.1) = F.map kN ∧ (∀ e ∈ kvs, Row H' F.length e.2) ∧ Ext [] H H',
      ⟨_, [0], [(kN 0, .ref t)], 0, _, _, _, rfl, .first ok.one, rfl, upd_same, by rw [upd_ne od]; exact hd3, rfl, fun e he => ?_, e4⟩, ?_⟩
    · obtain rfl := List.mem_singleton.mp he
      have ot : t ≠ o := ne_of_none ht3 ho
      exact ⟨t, [], rfl, .of (by rw [upd_ne ot]; exact ht3), Nat.zero_le _⟩
    rintro m σ H' ⟨F, kvs, i, y4, y5, y6, rfl, mi, rfl, hF, hD, hk, hrow, e⟩
    have Fle : F.length ≤ b.length := nodup_le mi.nd mi.lt
    refine ⟨_, rfl, _, rfl, o, _, rfl, .inl (.of hF), _, _, rfl, rfl, _, rfl, ite2 (fun z => ?_) (fun z => ?_)⟩
    · have z := of_decide_eq_true z
      rw [List.length_map] at z
      have hiF : i < F.length := by omega
      have hs : F[i]? = some F[i] := List.getElem?_eq_getElem hiF
      generalize F[i] = x at hs
      have gx : (stB b i)[i]? = some x := by rw [← mi.eq]; exact hs
      have hx : x < b.length := mi.lt x (List.mem_of_getElem? hs)
      obtain ⟨u, hu, c, ps, rfl, hc, hps⟩ := Paired.get hls (mvs_lt hx)
      have plen := Paired.len hps
      refine ⟨fun σ H' => ∃ (F : List Nat) (kvs : List (Key × V)) (y4 y5 y6 : Option V), σ = [some (.ref a), some (.int 0), some (.ref d), some (.ref o), some (.int (i + 1 : Nat)), y4, y5, y6] ∧ MetIO b F (i + 1) ∧ H' o = some (.lst (F.map nV)) ∧ H' d = some (.dK kvs) ∧ kvs.map (·.1) = F.map kN ∧ (∀ e ∈ kvs, Row H' F.length e.2) ∧ Ext [] H H', ?_, ?_⟩
      · rintro σ' H' ⟨F, kvs, y4, y5, y6, rfl, mi, r⟩
        exact ⟨b.length - (i + 1), by omega, F, kvs, i + 1, _, _, _, rfl, mi, rfl, r⟩
      refine ⟨_, rfl, _, rfl, o, _, _, _, rfl, rfl, .of hF, atI_nat (at_map hs), ?_⟩
      refine ⟨_, rfl, _, _, rfl, rfl, ?_⟩
      refine ⟨_, rfl, _, rfl, a, _, _, _, rfl, rfl, e.frz (by simp) ha, atI_nat hu, c, rfl, ⟨_, (e.tup Lsts.nil hc)⟩, ?_⟩
      refine for_tup (K := K) (a := c) (xs := ps.map V.ref) (fun k σ H' => ∃ (F : List Nat) (kvs : List (Key × V)) (y5 y6 : Option V), σ = [some (.ref a), some (.int 0), some (.ref d), some (.ref o), some (.int ((i : Int) + 1)), some (nV x), y5, y6] ∧ MetWO b F i x k ∧ H' o = some (.lst (F.map nV)) ∧ H' d = some (.dK kvs) ∧ kvs.map (·.1) = F.map kN ∧ (∀ e ∈ kvs, Row H' F.length e.2) ∧ Ext [] H H')
        ⟨F, kvs, _, _, rfl, mi.begin hs, hF, hD, hk, hrow, e⟩ (fun k σ H' _ ⟨_, _, _, _, _, _, _, _, _, _, e⟩ => (e.tup Lsts.nil hc)) ?_ ?_
      · rintro k v σ H' hv ⟨F, kvs, y5, y6, rfl, mw, hF, hD, hk, hrow, e⟩
        obtain ⟨g, hg, rfl⟩ := map_at hv
        obtain ⟨p, hp, hcp⟩ := Paired.get' hps hg
        have hcp := hcp.ext0 e
        have Fle : F.length ≤ b.length := nodup_le mw.nd mw.lt
        have pb : p.2 < b.length := ok.to (List.mem_of_getElem? hp)
        refine ⟨g, _, rfl, hcp, rfl, _, _, rfl, _, _, rfl, rfl, ?_⟩
        refine ⟨_, rfl, _, rfl, d, _, rfl, DGet.k (k := kN p.2) hD, _, rfl, ?_⟩
        rw [valV_key hk]
        by_cases hin : p.2 ∈ F
        · rw [decide_eq_true hin]
          exact iteF ⟨F, kvs, _, _, rfl, mw.skip hp hin, hF, hD, hk, hrow, e⟩
        · rw [decide_eq_false hin]
          refine iteT ?_
          -- rows[state] + (message,)
          have xin : x ∈ F := List.mem_of_getElem? mw.here
          have hsome : (valV kvs (kN x)).isSome = true := by rw [valV_key hk]; exact decide_eq_true xin
          obtain ⟨rv, hrv⟩ := Option.isSome_iff_exists.mp hsome
          obtain ⟨r, rs, er, hr1, hr2⟩ := hrow _ (valV_mem hrv)
          have er : rv = .ref r := er
          subst er
          have newk : valV kvs (kN p.2) = none := by
            have := valV_key hk p.2
            rw [decide_eq_false hin] at this
            cases h : valV kvs (kN p.2) with
            | none => rfl
            | some z => rw [h] at this; cases this
          have klen : kvs.length = F.length := by have := congrArg List.length hk; simpa using this
          -- behind the new row: the dict, the list
          have fin : ∀ (nr : Addr) (ys : List V) (H4 : Hp), Ext [] H' H4 → SqT K H4 nr ys → ys.length ≤ F.length + 1 → ∃ H5, DPut H4 d (.int p.2) (.ref nr) H5 ∧
              ∃ q5 : H5 = upd H4 d (.dK (kvs ++ [(kN p.2, .ref nr)])), H5 o = some (.lst (F.map nV)) ∧ H5 d = some (.dK (kvs ++ [(kN p.2, .ref nr)])) ∧ (∀ e ∈ kvs ++ [(kN p.2, .ref nr)], Row H5 (F.length + 1) e.2) ∧ Ext [] H H5 := by
            intro nr ys H4 e4 hn hl
            have hD4 := e4.at hD (by simp)
            have hF4 := e4.at hF (by simp)
            refine ⟨_, DPut.k (k := kN p.2) hD4 (small1000 (by omega)), by rw [putK_new _ newk], ?_⟩
            rw [putK_new _ newk]
            have ee : Ext [d] H4 (upd H4 d (.dK (kvs ++ [(kN p.2, .ref nr)]))) := .wr (by simp)
            refine ⟨by rw [upd_ne od.symm]; exact hF4, upd_same, fun z hz => ?_, (e.trans e4).put hd⟩
            rcases List.mem_append.mp hz with hz | hz
            · obtain ⟨x, xs, h1, h2, h3⟩ := hrow z hz
              exact ⟨x, xs, h1, ee.tup (one_dk hD4) (e4.tup Lsts.nil h2), by omega⟩
            · obtain rfl := List.mem_singleton.mp hz
              exact ⟨nr, ys, rfl, ee.tup (one_dk hD4) hn, hl⟩
          have last : ∀ (nr : Addr) (H5 : Hp), H5 o = some (.lst (F.map nV)) → H5 d = some (.dK (kvs ++ [(kN p.2, .ref nr)])) → (∀ e ∈ kvs ++ [(kN p.2, .ref nr)], Row H5 (F.length + 1) e.2) → Ext [] H H5 →
              ∃ (F' : List Nat) (kvs' : List (Key × V)) (y5 y6 : Option V), [some (.ref a), some (.int 0), some (.ref d), some (.ref o), some (.int ((i : Int) + 1)), some (nV x), some (.int p.1), some (.int p.2)] = [some (.ref a), some (.int 0), some (.ref d), some (.ref o), some (.int ((i : Int) + 1)), some (nV x), y5, y6] ∧
                MetWO b F' i x (k + 1) ∧ upd H5 o (.lst (F.map nV ++ [.int p.2])) o = some (.lst (F'.map nV)) ∧ upd H5 o (.lst (F.map nV ++ [.int p.2])) d = some (.dK kvs') ∧ kvs'.map (·.1) = F'.map kN ∧ (∀ e ∈ kvs', Row (upd H5 o (.lst (F.map nV ++ [.int p.2]))) F'.length e.2) ∧ Ext [] H (upd H5 o (.lst (F.map nV ++ [.int p.2]))) := by
            intro nr H5 h1 h2 h3 h4
            refine ⟨F ++ [p.2], kvs ++ [(kN p.2, .ref nr)], _, _, rfl, mw.push hp hin pb, by rw [upd_same, List.map_append]; rfl, by rw [upd_ne od]; exact h2, by rw [List.map_append, List.map_append, hk]; rfl, fun z hz => ?_, h4.put ho0⟩
            obtain ⟨x, xs, g1, g2, g3⟩ := h3 z hz
            exact ⟨x, xs, g1, Ext.tup (L := [o]) (.wr (by simp)) (one_lst h1) g2, by rw [List.length_append]; exact g3⟩
          refine ⟨_, rfl, _, rfl, d, _, rfl, by rw [← hrv]; exact DGet.k (k := kN x) hD, _, rfl, (by show 1 ≤ sizeLine; decide), fun g2 hg2 => ?_⟩
          have e5 : Ext [] H' (upd H' g2 (.tup [.int p.1])) := .new hg2
          refine ⟨r, g2, rs, _, rfl, rfl, e5.tup Lsts.nil hr1, .of upd_same, ?_, fun h0 => ?_, fun _ h0 => (by cases h0), fun _ _ g3 hg3 => ?_⟩
          · show rs.length + 1 ≤ sizeLine
            exact Nat.le_of_lt (small1000 (by omega))
          · obtain ⟨H5, dp, _, f1, f2, f3, f4⟩ := fin g2 [.int p.1] _ e5 (.of upd_same) (by simp)
            refine ⟨_, rfl, _, rfl, d, H5, rfl, dp, ?_⟩
            exact ⟨_, rfl, .inl ⟨rfl, _, .of f1⟩, _, rfl, o, _, _, rfl, rfl, f1, by rw [List.length_map]; exact small1000 (by omega), last g2 H5 f1 f2 f3 f4⟩
          · obtain ⟨H5, dp, _, f1, f2, f3, f4⟩ := fin g3 (rs ++ [.int p.1]) _ (e5.put2 hg3) (.of upd_same) (by rw [List.length_append]; show rs.length + 1 ≤ _; omega)
            refine ⟨_, rfl, _, rfl, d, H5, rfl, dp, ?_⟩
            exact ⟨_, rfl, .inl ⟨rfl, _, .of f1⟩, _, rfl, o, _, _, rfl, rfl, f1, by rw [List.length_map]; exact small1000 (by omega), last g3 H5 f1 f2 f3 f4⟩
      · rintro σ H' ⟨F, kvs, y5, y6, rfl, mw, hF, hD, hk, hrow, e⟩
        exact ⟨F, kvs, _, _, _, by rw [Int.natCast_add]; rfl, mw.done gx (by rw [List.length_map, plen]; exact Nat.le_refl _), hF, hD, hk, hrow, e⟩
    · have z : ¬ ((i : Int) < ((F.map nV).length : Int)) := fun y => z (decide_eq_true y)
      rw [List.length_map] at z
      have := mi.le
      exact ⟨_, rfl, q F kvs d H' (mi.met (by omega)) hk hD e⟩


def sp_by_meetingS (K : PySem.W.Frag) : Sp := fun vs H Q _ => ∃ (v : V) (b : Book), vs = [v] ∧ BkS K H v b ∧ FormB b ∧ ∀ (v' : V) (H' : Hp), BkV K H' v' (rename b (ordB b)) → Ext [] H H' → Q v' H'
theorem okS_by_meeting (T : Tx K mg) : FnOk P w K mg base CX0 3 T.by_meeting.f T.by_meeting.fd ["states"] (sp_by_meetingS K) := by
  refine T.by_meeting.F.ok sc_by_meeting (fun vs H Q E h => ?_) (fun cdv A outer s H vs Q E hr h => ?_)
  · obtain ⟨v, b, rfl, _⟩ := h; rfl
  · obtain ⟨v, b, rfl, hw, fb, q⟩ := h
    obtain ⟨m, ls, rfl, hm, hls⟩ := id hw
    have h8 := fb.eight
    refine ⟨_, (pss_cons (ps_set (i := 1) sc_by_meeting.nd rfl (.inl rfl) (pe_callTy (call_list_dK rfl) (by rfl) T.n_list (by decide +kernel) (pa_cons (pe_call (okS_first_rows T) (hr.mono (by decide)) (by rfl) T.first_rows.g T.first_rows.F.kp T.first_rows.bD.choose_spec.2 T.first_rows.bD.choose_spec.1 pass0 (pa_cons (pv 0) pa_nil)) pa_nil)))
      (pss_cons (ps_set (i := 2) sc_by_meeting.nd rfl (.inr rfl) (pe_dc (own := [("k", 3), ("state", 4)]) rfl sc_by_meeting.nd (pi_enum (by rfl) T.n_enumerate (pa_cons (pv 1) pa_nil)) (blkOk_by (own := [("k", 3), ("state", 4)]) (N := ["states", "order", "number", "k", "state", "message", "to"]) (sc := defScope s_by_meeting) (by decide +kernel)) (fun _ _ _ _ _ => (pg_tupK (n := 2) K rfl (pgs_cons (pg_name (i := 3) sc_by_meeting.nd rfl (.inl rfl)) (pgs_cons (pg_name (i := 4) sc_by_meeting.nd rfl (.inl rfl)) pgs_nil)))) (fun _ _ _ _ _ => pts_nil) (fun _ _ _ _ _ => (pv 4)) (fun _ _ _ _ _ => (pv 3))))
      (pss_one (ps_ret (pe_callTy call_tupZ (by rfl) T.n_tuple (by decide +kernel) (pa_cons (pe_lc (own := [("state", 4)]) rfl sc_by_meeting.nd (pi_list (pv 1)) (blkOk_by (own := [("state", 4)]) (N := ["states", "order", "number", "k", "state", "message", "to"]) (sc := defScope s_by_meeting) (by decide +kernel)) (fun _ _ _ _ _ => (pg_name (i := 4) sc_by_meeting.nd rfl (.inl rfl))) (fun _ _ _ _ _ => pts_nil) (fun _ _ _ _ _ => (pe_callTy (call_tupZK K) (by rfl) T.n_tuple (by decide +kernel) (pa_cons (pe_lc (own := [("message", 5), ("to", 6)]) rfl sc_by_meeting.nd (pi_tupK K (pe_ix (ix_listK K) (pv 0) (pv 4) (fun _ _ => rfl))) (blkOk_by (own := [("message", 5), ("to", 6)]) (by kernel_rfl)) (fun _ _ _ _ _ => (pg_tupK (n := 2) K rfl (pgs_cons (pg_name (i := 5) sc_by_meeting.nd rfl (.inl rfl)) (pgs_cons (pg_name (i := 6) sc_by_meeting.nd rfl (.inl rfl)) pgs_nil)))) (fun _ _ _ _ _ => pts_nil) (fun _ _ _ _ _ => (pe_tup (pa_cons (pv 5) (pa_cons (pe_dget (hu_of hr) (pv 2) (pv 6) (fun _ _ => rfl)) pa_nil))))) pa_nil)))) pa_nil)))))), ?_⟩
    refine ⟨_, rfl, _, b, rfl, hw, fb, fun F kvs d H1 mo hk hd e1 => ⟨d, kvs, rfl, hd, fun f hf => ?_⟩⟩
    have eF : (kvs.map fun kv => kV kv.1) = F.map nV := by
      have : (kvs.map fun kv => kV kv.1) = (kvs.map (·.1)).map kV := by rw [List.map_map]; rfl
      rw [this, hk, List.map_map]
      rfl
    rw [eF]
    have ef : Ext [] H1 (upd H1 f (.lst (F.map nV))) := .new hf
    have hF2 : upd H1 f (.lst (F.map nV)) f = some (.lst (F.map nV)) := upd_same
    have e2 := e1.trans ef
    clear hf ef
    generalize upd H1 f (.lst (F.map nV)) = H2 at *
    have hl8 : F.length ≤ 8 := Nat.le_trans (nodup_le mo.nd mo.lt) h8
    -- number = {state: k ..}
    refine ⟨_, rfl, f, _, rfl, .of hF2, fun N hN => ?_⟩
    refine dc_it (walk_enum (K := K) (a := f) (xs := F.map nV)) (fun i H' => H' N = some (.dK (placesK (F.take i))) ∧ Ext [] H2 H') ⟨by simp [placesK]; exact upd_same, .new hN⟩ (fun i H' _ ⟨_, e⟩ => .of (e.at hF2 (by simp))) ?_ ?_
    · rintro i v H3 H' hi ⟨hX, e⟩ ⟨t, x, y, rfl, nt, rfl, hx, hy⟩
      cases hx
      obtain ⟨s, hs, rfl⟩ := map_at (show (F.map nV)[i]? = some y from hy)
      have e3 := e.put2 (o := .tup [.int i, nV s]) nt
      have hX3 : upd H3 t (.tup [.int i, nV s]) N = _ := (upd_ne (ne_of_none hX nt)).trans hX
      have hiF : i < F.length := (List.getElem?_eq_some_iff.mp hs).1
      refine ⟨t, _, rfl, .of upd_same, rfl, _, _, rfl, _, _, rfl, rfl, rfl, yes ?_⟩
      refine ⟨_, rfl, _, rfl, placesK (F.take i), kN s, rfl, hX3, ?_, ?_, e3.put hN⟩
      · rw [placesK_len, List.length_take]
        exact small1000 (by omega)
      · have hnew : s ∉ F.take i := fun z => by
          obtain ⟨j, hj, ej⟩ := List.mem_iff_getElem.mp z
          rw [List.getElem_take] at ej
          rw [List.length_take] at hj
          have a1 := idx_of mo.nd hs
          have a2 := idx_of mo.nd (j := j) (s := s) (by rw [List.getElem?_eq_getElem (by omega), ej])
          omega
        have hp := placesK_put hnew
        rw [List.length_take, Nat.min_eq_left (Nat.le_of_lt hiF)] at hp
        rw [upd_same, List.take_add_one, hs]
        exact congrArg (fun z => some (HO.dK z)) hp
    · rintro H3 ⟨hN3, e3⟩
      rw [List.length_map, List.take_length] at hN3
      have hF3 := e3.at hF2 (by simp)
      have f3 := e2.trans e3
      have hw3 := hw.ext0 f3
      clear hN
      -- the new book
      refine ⟨_, rfl, f, rfl, ⟨_, .of hF3⟩, fun D hD => ?_⟩
      have fD : f ≠ D := ne_of_none hF3 hD
      have ND : N ≠ D := ne_of_none hN3 hD
      have hDH : H D = none := f3.free hD
      refine lc_list (K := K) (a := f) (xs := F.map nV) (fun i H' => ∃ vs : List V, H' D = some (.lst vs) ∧ Paired (StV K H') vs ((rename b F).take i) ∧ Ext [] H H' ∧ H' f = some (.lst (F.map nV)) ∧ H' N = some (.dK (placesK F))) ⟨[], upd_same, .nil, f3.put2 hD, by rw [upd_ne fD]; exact hF3, by rw [upd_ne ND]; exact hN3⟩ (fun i H' _ ⟨_, _, _, _, h, _⟩ => .of h) ?_ ?_
      · rintro i v H' hv ⟨vs, hDv, hpd, e, hF', hN'⟩
        obtain ⟨x, hx, rfl⟩ := map_at hv
        have hxb : x < b.length := mo.lt x (List.mem_of_getElem? hx)
        obtain ⟨u, hu, a, ps, rfl, ha, hps⟩ := Paired.get hls (mvs_lt hxb)
        have plen : ps.length = (mvs b x).length := Paired.len hps
        have five := (fb.ok hxb).few
        refine ⟨rfl, yes ?_⟩
        refine ⟨_, rfl, _, rfl, m, _, _, _, rfl, rfl, e.frz (by simp) hm, atI_nat hu, a, rfl, ⟨_, e.tup Lsts.nil ha⟩, fun D2 hD2 => ?_⟩
        have hD2H : H D2 = none := e.free hD2
        have n1 : D ≠ D2 := ne_of_none hDv hD2
        have n2 : f ≠ D2 := ne_of_none hF' hD2
        refine lc_tup (K := K) (a := a) (xs := ps.map V.ref) (fun k H2 => ∃ qs : List Addr, H2 D2 = some (.lst (qs.map V.ref)) ∧ Paired (MvV K H2) qs (((mvs b x).take k).map fun p => (p.1, F.idxOf p.2)) ∧ Ext [] H' H2) ⟨[], upd_same, .nil, .new hD2⟩ (fun k H2 _ ⟨_, _, _, e2⟩ => (e.trans e2).tup Lsts.nil ha) ?_ ?_
        · rintro k v H2 hv ⟨qs, hq, hqp, e2⟩
          obtain ⟨c, hc, rfl⟩ := map_at hv
          obtain ⟨p, hp, hcp⟩ := Paired.get' hps hc
          have hcp := hcp.ext0 (e.trans e2)
          have hN2 := e2.at hN' (by simp)
          have pin : p.2 ∈ F := mo.cl x (List.mem_of_getElem? hx) p (List.mem_of_getElem? hp)
          refine ⟨c, _, rfl, hcp, rfl, _, _, rfl, _, _, rfl, rfl, rfl, yes ?_⟩
          refine ⟨_, rfl, _, rfl, _, rfl, N, nV (F.idxOf p.2), rfl, by rw [← placesK_val mo.nd pin]; exact DGet.k (k := kN p.2) hN2, ?_⟩
          refine ⟨(by show 2 ≤ sizeLine; decide), fun t ht => ?_⟩
          have tD2 : D2 ≠ t := ne_of_none hq ht
          have e3 : Ext [] H2 (upd H2 t (.tup [.int p.1, .int (F.idxOf p.2 : Nat)])) := .new ht
          refine ⟨_, e3.at hq (by simp), ?_, qs ++ [t], by rw [upd_same, List.map_append]; rfl, ?_, (e2.trans e3).put hD2⟩
          · rw [List.length_map, Paired.len hqp, List.length_map, List.length_take]
            exact small1000 (by omega)
          · rw [List.take_add_one, hp, List.map_append]
            refine Paired.snoc ?_ (Paired.imp hqp fun _ _ z => (z.ext0 e3).put (e3.at hq (by simp)))
            exact MvV.put (m := (p.1, F.idxOf p.2)) (.of upd_same) (e3.at hq (by simp))
        · rintro H2 ⟨qs, hq, hqp, e2⟩
          have ek : (mvs b x).take (ps.map V.ref).length = mvs b x := List.take_of_length_le (by rw [List.length_map, plen]; exact Nat.le_refl _)
          rw [ek] at hqp
          refine ⟨D2, _, rfl, .of hq, fun t H3 ht hH3 => ?_⟩
          obtain ⟨o, od, rfl⟩ := hH3
          have e3 : Ext [] H2 (upd H2 t (.frz o (.tup (qs.map V.ref)))) := .new ht
          have e4 := e2.trans e3
          refine ⟨vs, e4.at hDv (by simp), ?_, vs ++ [.ref t], upd_same, ?_, (e.trans e4).put hDH, by rw [upd_ne fD]; exact e4.at hF' (by simp), by rw [upd_ne ND]; exact e4.at hN' (by simp)⟩
          · rw [Paired.len hpd, List.length_take]
            exact small1000 (by rw [rename_len]; omega)
          · have hr' : (rename b F)[i]? = some ((mvs b x).map fun p => (p.1, F.idxOf p.2)) := by
              unfold rename
              rw [List.getElem?_map, hx]
              rfl
            rw [List.take_add_one, hr']
            have hDe := e4.at hDv (by simp)
            refine Paired.snoc ?_ (Paired.imp hpd fun _ _ z => (z.ext0 e4).put hDe)
            exact StV.put ⟨t, qs, rfl, ⟨o, upd_same, od⟩, Paired.imp hqp fun _ _ z => z.ext0 e3⟩ hDe
      · rintro H' ⟨vs, hDv, hpd, e, hF', _⟩
        refine ⟨D, vs, rfl, .of hDv, fun t H3 ht hH3 => ?_⟩
        obtain ⟨o, od, rfl⟩ := hH3
        have e3 : Ext [] H' (upd H' t (.frz o (.tup vs))) := .new ht
        have ek : (rename b F).take (F.map nV).length = rename b F := List.take_of_length_le (by rw [List.length_map, rename_len]; exact Nat.le_refl _)
        rw [ek, mo.eq] at hpd
        exact q _ _ ⟨t, vs, rfl, .inl (.inr ⟨o, upd_same⟩), Paired.imp hpd fun _ _ z => z.ext0 e3⟩ (e.trans e3)
end
end Nv
set_option Elab.async false
set_option linter.all false
set_option maxRecDepth 100000
namespace Nv
open PySem PySem.Spec PyProof.Rows L2
section
variable {P : Program} {w : World} {K : PySem.W.Frag} {mg : Str → Option Value} {base : Heap}
/-! ### the fewest states -/
/-- a state as a key -/
def nkS (s : State) : NestedKey := .tup (s.map fun p => .tup [.num p.1, .num p.2])
theorem nkL_inj : ∀ {s t : State}, s.map (fun p => NestedKey.tup [.num p.1, .num p.2]) = t.map (fun p => NestedKey.tup [.num p.1, .num p.2]) → s = t
  | [], [], _ => rfl
  | [], _ :: _, h => nomatch h
  | _ :: _, [], h => nomatch h
  | p :: s, q :: t, h => by
    rw [List.map_cons, List.map_cons] at h
    injection h with h1 h2
    rw [nkL_inj h2]
    injection h1 with h1
    injection h1 with h3 h4
    injection h4 with h4 _
    injection h3 with h3
    injection h4 with h4
    have e : p = q := by
      obtain ⟨p1, p2⟩ := p
      obtain ⟨q1, q2⟩ := q
      have h3 : (p1 : Int) = q1 := h3
      have h4 : (p2 : Int) = q2 := h4
      have e1 : p1 = q1 := by omega
      have e2 : p2 = q2 := by omega
      rw [e1, e2]
    rw [e]
theorem nkS_inj {s t : State} (h : nkS s = nkS t) : s = t := by
  unfold nkS at h
  injection h with h
  exact nkL_inj h
theorem nkS_depth (s : State) : (nkS s).depth ≤ 8 := by
  have : ∀ s : State, NestedKey.depthAll (s.map fun p => NestedKey.tup [.num p.1, .num p.2]) ≤ 1 := by
    intro s
    induction s with
    | nil => exact Nat.zero_le _
    | cons p s ih =>
      rw [List.map_cons]
      show max (NestedKey.depth (.tup [.num p.1, .num p.2])) _ ≤ 1
      refine Nat.max_le.mpr ⟨?_, ih⟩
      show max 0 (max 0 0) + 1 ≤ 1
      decide
  have := this s
  show NestedKey.depthAll _ + 1 ≤ 8
  omega
theorem StV.key {K : PySem.W.Frag} {H : Hp} {v : V} {s : State} (h : StV K H v s) : NkV K H (nkS s) v := by
  obtain ⟨a, ps, rfl, ha, hps⟩ := h
  refine .tup ha.sq ?_
  clear ha
  induction hps with
  | nil => exact .nil
  | cons r _ ih => exact .cons (.tup r (.cons (.num _) (.cons (.num _) .nil))) ih
/-- the entries stand for these states, the values are their places -/
def EntsOk (K : PySem.W.Frag) (H : Hp) (kvs : List Ent) (F : List State) : Prop := Paired (fun (e : Ent) s => e.1 = nkS s ∧ StV K H (.ref e.2.1) s) kvs F ∧ kvs.map (·.2.2) = (List.range F.length).map nV
theorem EntsOk.nil {K : PySem.W.Frag} {H : Hp} : EntsOk K H [] [] := ⟨.nil, rfl⟩
theorem EntsOk.ext {K : PySem.W.Frag} {H H' : Hp} {L : List Addr} {kvs : List Ent} {F : List State} (h : EntsOk K H kvs F) (e : Ext L H H') (l : Lsts L H) : EntsOk K H' kvs F := ⟨Paired.imp h.1 fun _ _ z => ⟨z.1, z.2.ext e l⟩, h.2⟩
theorem EntsOk.len {K : PySem.W.Frag} {H : Hp} {kvs : List Ent} {F : List State} (h : EntsOk K H kvs F) : kvs.length = F.length := Paired.len h.1
theorem EntsOk.keys {K : PySem.W.Frag} {H : Hp} {kvs : List Ent} {F : List State} (h : EntsOk K H kvs F) : KeysIn K H kvs := by
  have key : ∀ {kvs : List Ent} {F : List State}, Paired (fun (e : Ent) s => e.1 = nkS s ∧ StV K H (.ref e.2.1) s) kvs F → KeysIn K H kvs := by
    intro kvs F h
    induction h with
    | nil => exact fun e he => nomatch he
    | cons r _ ih =>
      intro e he
      rcases List.mem_cons.mp he with rfl | he
      · rw [r.1]
        exact ⟨r.2.key, nkS_depth _⟩
      · exact ih e he
  exact key h.1
theorem EntsOk.push {K : PySem.W.Frag} {H : Hp} {kvs : List Ent} {F : List State} {b : Addr} {s : State} (h : EntsOk K H kvs F) (hs : StV K H (.ref b) s) : EntsOk K H (kvs ++ [(nkS s, b, nV kvs.length)]) (F ++ [s]) :=
  ⟨Paired.snoc ⟨rfl, hs⟩ h.1, by rw [List.map_append, h.2, List.length_append, List.length_singleton, List.range_succ, List.map_append, h.len]; rfl⟩
theorem EntsOk.val {K : PySem.W.Frag} {H : Hp} {kvs : List Ent} {F : List State} (h : EntsOk K H kvs F) (s : State) : valN kvs (nkS s) = if s ∈ F then some (nV (plc F s)) else none := by
  have key : ∀ (kvs : List Ent) (F : List State) (n : Nat), Paired (fun (e : Ent) s => e.1 = nkS s ∧ StV K H (.ref e.2.1) s) kvs F → kvs.map (·.2.2) = (List.range' n F.length).map nV → valN kvs (nkS s) = if s ∈ F then some (nV (n + plc F s)) else none := by
    intro kvs F n h
    induction h generalizing n with
    | nil => exact fun _ => rfl
    | @cons e t es ts r _ ih =>
      intro hv
      rw [List.map_cons, List.length_cons, List.range'_succ, List.map_cons] at hv
      injection hv with h1 h2
      by_cases c : t = s
      · subst c
        have hc : valN (e :: es) (nkS t) = some e.2.2 := by simp [valN, List.find?_cons, r.1]
        rw [hc, h1, if_pos (List.mem_cons_self ..), plc_self]
        rfl
      · have hne : ¬ e.1 = nkS s := fun z => c (nkS_inj (r.1.symm.trans z))
        have hc : valN (e :: es) (nkS s) = valN es (nkS s) := by simp [valN, List.find?_cons, hne]
        rw [hc, ih (n + 1) h2]
        have e2 : plc (t :: ts) s = plc ts s + 1 := plc_ne c
        by_cases hm : s ∈ ts
        · rw [if_pos hm, if_pos (List.mem_cons_of_mem _ hm), e2]
          congr 2
          omega
        · rw [if_neg hm, if_neg (fun z => (List.mem_cons.mp z).elim (fun y => c y.symm) hm)]
  have := key kvs F 0 h.1 (by rw [h.2, List.range_eq_range'])
  rw [this, Nat.zero_add]
theorem sc_least_states : FnScope ["states", "kinds", "many", "signs", "numbers", "sign", "moves", "message", "to"] ["states"] (defScope s_least_states) := ⟨rfl, rfl, rfl, by decide +kernel, rfl, by decide +kernel, by decide +kernel⟩
def sp_least_states (K : PySem.W.Frag) : Sp := fun vs H Q _ => ∃ (v : V) (b : Book), vs = [v] ∧ BkV K H v b ∧ FormB b ∧ ∀ (ks : List Nat) (m : Nat) (v' : V) (H' : Hp), LeastB b ks m → BkV K H' v' (rename (firsts (signsB b ks)) (ordB (firsts (signsB b ks)))) → Ext [] H H' → Q v' H'
theorem ok_least_states (T : Tx K mg) : FnOk P w K mg base CX0 4 T.least_states.f T.least_states.fd ["states"] (sp_least_states K) := by
  refine T.least_states.F.ok sc_least_states (fun vs H Q E h => ?_) (fun cdv A outer s H vs Q E hr h => ?_)
  · obtain ⟨v, b, rfl, _⟩ := h; rfl
  · obtain ⟨v, b, rfl, hb, fb, q⟩ := h
    obtain ⟨a, ls, rfl, ha, hls⟩ := id hb
    have llen := Paired.len hls
    have h8 := fb.eight
    have h1 := fb.one
    refine ⟨_, (pss_cons (ps_set (i := 1) sc_least_states.nd rfl (.inr rfl) (pe_op op_rep (pe_lst (pa_cons pe_int pa_nil)) (pe_callB call_len_seq (by rfl) T.n_len PySem.boot_len (pa_cons (pv 0) pa_nil))))
      (pss_cons (ps_set (i := 2) sc_least_states.nd rfl (.inl rfl) pe_int)
      (pss_one (ps_while PassesOwn.never (pt_val pe_bl)
        (pss_cons (ps_setLc (i := 3) (own := [("moves", 6)]) rfl sc_least_states.nd rfl rfl (sw_true rfl rfl rfl (by decide +kernel)) (pi_tup (pv 0)) (blkOk_by (own := [("moves", 6)]) (N := ["states", "kinds", "many", "signs", "numbers", "sign", "moves", "message", "to"]) (sc := defScope s_least_states) (by decide +kernel)) (fun _ _ _ _ _ => (pg_name (i := 6) sc_least_states.nd rfl (.inl rfl))) (fun _ _ _ _ _ => pts_nil) (fun _ _ _ _ _ => (pe_callTy (call_tupZK K) (by rfl) T.n_tuple (by decide +kernel) (pa_cons (pe_lc (own := [("message", 7), ("to", 8)]) rfl sc_least_states.nd (pi_tupK K (pv 6)) (blkOk_by (own := [("message", 7), ("to", 8)]) (by kernel_rfl)) (fun _ _ _ _ _ => (pg_tupK (n := 2) K rfl (pgs_cons (pg_name (i := 7) sc_least_states.nd rfl (.inl rfl)) (pgs_cons (pg_name (i := 8) sc_least_states.nd rfl (.inl rfl)) pgs_nil)))) (fun _ _ _ _ _ => pts_nil) (fun _ _ _ _ _ => (pe_tup (pa_cons (pv 7) (pa_cons (pe_ix (ix_listK K) (pv 1) (pv 8) (fun _ _ => rfl)) pa_nil))))) pa_nil))))
        (pss_cons (ps_set (i := 4) sc_least_states.nd rfl (.inr rfl) (pe_dnewN w))
        (pss_cons (ps_for PassesOwn.never rfl (pi_list (pv 3)) (pg_name (i := 5) sc_least_states.nd rfl (.inl rfl))
          (pss_one (ps_if (pt_cmp (pc_dnotinN K w (hn_of hr) (pv 5) (pv 4)))
            (pss_one (ps_dputN K w (hn_of hr) (pv 4) (pv 5) (pe_callB (call_lenN K w) (by rfl) T.n_len PySem.boot_len (pa_cons (pv 4) pa_nil)) rfl))
            pss_nil)))
        (pss_cons (ps_if (pt_cmpR op_eq (pe_callB (call_lenN K w) (by rfl) T.n_len PySem.boot_len (pa_cons (pv 4) pa_nil)) (pv 2) (nomark _))
          (pss_one (ps_ret (pe_call (okS_by_meeting T) (hr.mono (by decide)) (by rfl) T.by_meeting.g T.by_meeting.F.kp T.by_meeting.b .nil pass0 (pa_cons (pe_callTy (call_list_dN rfl w) (by rfl) T.n_list (by decide +kernel) (pa_cons (pv 4) pa_nil)) pa_nil))))
          pss_nil)
        (pss_cons (ps_set (i := 1) sc_least_states.nd rfl (.inr rfl) (pe_lc (own := [("sign", 5)]) rfl sc_least_states.nd (pi_list (pv 3)) (blkOk_by (own := [("sign", 5)]) (N := ["states", "kinds", "many", "signs", "numbers", "sign", "moves", "message", "to"]) (sc := defScope s_least_states) (by decide +kernel)) (fun _ _ _ _ _ => (pg_name (i := 5) sc_least_states.nd rfl (.inl rfl))) (fun _ _ _ _ _ => pts_nil) (fun _ _ _ _ _ => (pe_dgetN K w (hn_of hr) (pv 4) (pv 5) (fun _ _ => rfl)))))
        (pss_one (ps_set (i := 2) sc_least_states.nd rfl (.inl rfl) (pe_callB (call_lenN K w) (by rfl) T.n_len PySem.boot_len (pa_cons (pv 4) pa_nil))))))))))))), ?_⟩
    -- kinds = [0] * len(states)
    refine ⟨(by show 1 ≤ sizeLine; decide), fun x hx => ?_⟩
    have e0 : Ext [] H (upd H x (.lst [.int 0])) := .new hx
    refine ⟨_, rfl, a, _, rfl, .inr (e0.tup Lsts.nil ha), x, _, _, rfl, rfl, upd_same, by omega, by omega, ?_, fun ro hro => ?_⟩
    · rw [forTo llen]
      exact Nat.le_of_lt (small1000 (by show 1 * b.length ≤ 1000; omega))
    rw [forTo llen]
    have e1 := e0.trans (Ext.new (L := []) (o := .lst (List.replicate b.length [V.int 0]).flatten) hro)
    have hr1 : upd (upd H x (.lst [.int 0])) ro (.lst (List.replicate b.length [V.int 0]).flatten) ro = some (.lst ((List.replicate b.length 0).map nV)) := by
      rw [upd_same, List.map_replicate]
      congr 2
      clear hro e1 llen h8 h1 fb hb q hls ha
      induction b.length with
      | zero => rfl
      | succ n ih => rw [List.replicate_succ, List.flatten_cons, ih, List.replicate_succ]; rfl
    generalize upd (upd H x (.lst [.int 0])) ro (.lst (List.replicate b.length [V.int 0]).flatten) = H1 at *
    -- the rounds
    refine ⟨fun m σ H' => ∃ (ks : List Nat) (many : Nat) (ko : Addr) (y3 y4 y5 : Option V), σ = [some (.ref a), some (.ref ko), some (.int many), y3, y4, y5, none, none, none] ∧ m = b.length - many ∧ KInv b ks many ∧ H' ko = some (.lst (ks.map nV)) ∧ Ext [] H H',
      ⟨_, List.replicate b.length 0, 1, ro, _, _, _, rfl, rfl, .first h1, hr1, e1⟩, ?_⟩
    rintro m σ H2 ⟨ks, many, ko, y3, y4, y5, rfl, rfl, ki, hK, e⟩
    refine ⟨true, rfl, iteT ⟨fun σ H' => ∃ (ks' : List Nat) (many' : Nat) (ko : Addr) (y3 y4 y5 : Option V), σ = [some (.ref a), some (.ref ko), some (.int many'), y3, y4, y5, none, none, none] ∧ b.length - many' < b.length - many ∧ KInv b ks' many' ∧ H' ko = some (.lst (ks'.map nV)) ∧ Ext [] H H', ?_, ?_⟩⟩
    · rintro σ' H' ⟨ks', many', ko, y3, y4, y5, rfl, hlt, h2, h3, h4⟩
      exact ⟨_, hlt, ks', many', ko, _, _, _, rfl, rfl, h2, h3, h4⟩
    have klen := ki.len
    -- signs
    refine ⟨_, rfl, a, rfl, ⟨_, e.tup Lsts.nil ha⟩, fun so hso => ?_⟩
    have kso : ko ≠ so := ne_of_none hK hso
    have hsoH : H so = none := e.free hso
    refine lc_tup (K := K) (a := a) (xs := ls) (fun i H' => ∃ vs : List V, H' so = some (.lst vs) ∧ Paired (StV K H') vs ((signsB b ks).take i) ∧ Ext [] H2 H') ⟨[], upd_same, .nil, .new hso⟩ (fun i H' _ ⟨_, _, _, z⟩ => (e.trans z).tup Lsts.nil ha) ?_ ?_
    · rintro i v H' hv ⟨vs, hDv, hpd, e2⟩
      obtain ⟨st, hst, c, ps, rfl, hc, hps⟩ := Paired.get' hls hv
      have hib : i < b.length := (List.getElem?_eq_some_iff.mp hst).1
      rw [mvs_lt hib] at hst
      obtain rfl := Option.some.inj hst
      have plen := Paired.len hps
      have five := (fb.ok hib).few
      have eH := e.trans e2
      have hK2 := e2.at hK (by simp)
      refine ⟨rfl, yes ?_⟩
      refine ⟨_, rfl, c, rfl, ⟨_, eH.tup Lsts.nil hc.sq⟩, fun D2 hD2 => ?_⟩
      have n1 : so ≠ D2 := ne_of_none hDv hD2
      refine lc_tup (K := K) (a := c) (xs := ps.map V.ref) (fun k H3 => ∃ qs : List Addr, H3 D2 = some (.lst (qs.map V.ref)) ∧ Paired (MvV K H3) qs (signB ks ((mvs b i).take k)) ∧ Ext [] H' H3) ⟨[], upd_same, .nil, .new hD2⟩ (fun k H3 _ ⟨_, _, _, z⟩ => (eH.trans z).tup Lsts.nil hc.sq) ?_ ?_
      · rintro k v H3 hv ⟨qs, hq, hqp, e3⟩
        obtain ⟨g, hg, rfl⟩ := map_at hv
        obtain ⟨p, hp, hcp⟩ := Paired.get' hps hg
        have hcp := hcp.ext0 (eH.trans e3)
        have hK3 := e3.at hK2 (by simp)
        have pb : p.2 < b.length := fb.to (List.mem_of_getElem? hp)
        have hat : ks[p.2]? = some (ks.getD p.2 0) := by rw [List.getD_eq_getElem?_getD, List.getElem?_eq_getElem (by omega)]; rfl
        refine ⟨g, _, rfl, hcp, rfl, _, _, rfl, _, _, rfl, rfl, rfl, yes ?_⟩
        refine ⟨_, rfl, _, rfl, _, rfl, ko, _, _, _, rfl, rfl, .of hK3, atI_nat (at_map hat), ?_⟩
        refine ⟨(by show 2 ≤ sizeLine; decide), fun t ht => ?_⟩
        have e4 : Ext [] H3 (upd H3 t (.tup [.int p.1, nV (ks.getD p.2 0)])) := .new ht
        refine ⟨_, e4.at hq (by simp), ?_, qs ++ [t], by rw [upd_same, List.map_append]; rfl, ?_, (e3.trans e4).put hD2⟩
        · rw [List.length_map, Paired.len hqp]
          unfold signB
          rw [List.length_map, List.length_take]
          exact small1000 (by omega)
        · rw [List.take_add_one, hp]
          unfold signB
          rw [List.map_append]
          refine Paired.snoc ?_ (Paired.imp hqp fun _ _ z => (z.ext0 e4).put (e4.at hq (by simp)))
          exact MvV.put (m := (p.1, ks.getD p.2 0)) (.of upd_same) (e4.at hq (by simp))
      · rintro H3 ⟨qs, hq, hqp, e3⟩
        have ek : (mvs b i).take (ps.map V.ref).length = mvs b i := List.take_of_length_le (by rw [List.length_map, plen]; exact Nat.le_refl _)
        rw [ek] at hqp
        refine ⟨D2, _, rfl, .of hq, fun t H4 ht hH4 => ?_⟩
        obtain ⟨o, od, rfl⟩ := hH4
        have e4 : Ext [] H3 (upd H3 t (.frz o (.tup (qs.map V.ref)))) := .new ht
        have e5 := e3.trans e4
        refine ⟨vs, e5.at hDv (by simp), ?_, vs ++ [.ref t], upd_same, ?_, (e2.trans e5).put hso⟩
        · rw [Paired.len hpd, List.length_take, signsB_len]
          exact small1000 (by omega)
        · rw [List.take_add_one, signsB_at hib]
          have hDe := e5.at hDv (by simp)
          refine Paired.snoc ?_ (Paired.imp hpd fun _ _ z => (z.ext0 e5).put hDe)
          exact StV.put ⟨t, qs, rfl, ⟨o, upd_same, od⟩, Paired.imp hqp fun _ _ z => z.ext0 e4⟩ hDe
    rintro H3 ⟨vs, hS, hpd, e2⟩
    rw [llen, List.take_of_length_le (by rw [signsB_len]; exact Nat.le_refl _)] at hpd
    have e3 := e.trans e2
    have hK3 := e2.at hK (by simp)
    have vlen : vs.length = b.length := by rw [Paired.len hpd, signsB_len]
    clear e2 hK hso hsoH kso
    -- numbers = {}
    refine fun N hN => ?_
    have e4 : Ext [] H3 (upd H3 N (dnO w N [])) := .new hN
    have hN4 : upd H3 N (dnO w N []) N = some (dnO w N []) := upd_same
    have hS4 := e4.at hS (by simp)
    have hK4 := e4.at hK3 (by simp)
    have hpd4 := Paired.imp hpd fun _ _ z => z.ext0 e4
    have NH : H3 N = none := hN
    have soN : so ≠ N := ne_of_none hS hN
    have koN : ko ≠ N := ne_of_none hK3 hN
    have oneN : ∀ {H' : Hp} {kvs : List Ent}, H' N = some (dnO w N kvs) → Lsts [N] H' := fun {H' kvs} h a z => ⟨dnO w N kvs, by rw [List.mem_singleton.mp z]; exact h, fun _ q => (nomatch q), fun _ _ q => (nomatch q)⟩
    clear hN
    have e4' := e3.trans e4
    generalize upd H3 N (dnO w N []) = H4 at *
    refine ⟨_, rfl, so, rfl, ⟨_, .of hS4⟩, for_list (K := K) (a := so) (xs := vs) (fun i σ H' => ∃ (kvs : List Ent) (y5 : Option V), σ = [some (.ref a), some (.ref ko), some (.int many), some (.ref so), some (.ref N), y5, none, none, none] ∧ H' N = some (dnO w N kvs) ∧ EntsOk K H' kvs (firsts ((signsB b ks).take i)) ∧ Ext [N] H4 H')
      ⟨[], _, rfl, hN4, .nil, .refl⟩ (fun i σ H' _ ⟨_, _, _, _, _, z⟩ => .of (z.at hS4 (by simpa using soN))) ?_ ?_⟩
    · rintro i v σ H' hv ⟨kvs, y5, rfl, hN', ents, ex⟩
      have lN := oneN hN4
      obtain ⟨st, hst, hsv⟩ := Paired.get' hpd4 hv
      have hsv := hsv.ext ex lN
      obtain ⟨t, ps, rfl, ht, hps⟩ := id hsv
      have hib : i < b.length := by have := (List.getElem?_eq_some_iff.mp hst).1; rwa [signsB_len] at this
      have el := ents.len
      have fl : (firsts ((signsB b ks).take i)).length ≤ 8 := Nat.le_trans (firsts_le _) (by rw [List.length_take, signsB_len]; omega)
      have etk : (signsB b ks).take (i + 1) = (signsB b ks).take i ++ [st] := by rw [List.take_add_one, hst]; rfl
      refine ⟨_, rfl, _, rfl, N, _, rfl, ⟨kvs, nkS st, t, hN', ents.keys, rfl, hsv.key, nkS_depth st, rfl⟩, _, rfl, ?_⟩
      rw [ents.val st]
      by_cases hin : st ∈ firsts ((signsB b ks).take i)
      · rw [if_pos hin]
        refine iteF ⟨kvs, _, rfl, hN', ?_, ex⟩
        rw [etk, firsts_snoc, if_pos hin]
        exact ents
      · rw [if_neg hin]
        refine iteT ⟨_, rfl, N, kvs, rfl, hN', _, rfl, _, rfl, N, _, rfl, ⟨kvs, nkS st, t, hN', ents.keys, rfl, hsv.key, nkS_depth st, by rw [ents.val st, if_neg hin], small1000 (by omega), rfl⟩, ?_⟩
        have ew : Ext [N] H' (upd H' N (dnO w N (kvs ++ [(nkS st, t, nV kvs.length)]))) := .wr (by simp)
        refine ⟨_, _, rfl, upd_same, ?_, ex.trans ew⟩
        rw [etk, firsts_snoc, if_neg hin]
        exact (ents.ext ew (oneN hN')).push (hsv.ext ew (oneN hN'))
    rintro σ H5 ⟨kvs, y5, rfl, hN5, ents, ex⟩
    rw [vlen, List.take_of_length_le (by rw [signsB_len]; exact Nat.le_refl _)] at ents
    have lN := oneN hN4
    have hS5 := ex.at hS4 (by simpa using soN)
    have hpd5 := Paired.imp hpd4 fun _ _ z => z.ext ex lN
    have e5 : Ext [] H H5 := e3.trans (Ext.drop2 e4 ex NH)
    have el := ents.len
    -- if len(numbers) == many
    refine ⟨_, rfl, N, kvs, rfl, hN5, _, rfl, rfl, _, rfl, ?_⟩
    rw [dec_int]
    refine ite2 (fun z => ?_) (fun z => ?_)
    · have z := of_decide_eq_true z
      have stop : (firsts (signsB b ks)).length = many := by omega
      have lb : LeastB b ks many := { ki with stop := stop }
      refine ⟨_, rfl, N, kvs, rfl, hN5, fun p hp => ?_⟩
      have e6 : Ext [] H5 (upd H5 p (.lst (kvs.map fun e => V.ref e.2.1))) := .new hp
      refine ⟨.ref p, firsts (signsB b ks), rfl, ⟨p, _, rfl, .of upd_same, ?_⟩, lb.form fb, fun v' H' h' e' => q ks many v' H' lb h' ((e5.trans e6).trans e')⟩
      have key : ∀ {H' : Hp} {kvs : List Ent} {F : List State}, Paired (fun (e : Ent) s => e.1 = nkS s ∧ StV K H' (.ref e.2.1) s) kvs F → Paired (StW K H') (kvs.map fun e => V.ref e.2.1) F := by
        intro H' kvs F h
        induction h with
        | nil => exact .nil
        | cons r _ ih =>
          obtain ⟨c, ps, ec, h1, h2⟩ := r.2
          exact .cons ⟨c, ps, ec, h1.sq, h2⟩ ih
      exact key (ents.ext e6 Lsts.nil).1
    · have z : ¬ ((kvs.length : Int) = (many : Int)) := fun y => z (decide_eq_true y)
      have ge := ki.ge
      have le : (firsts (signsB b ks)).length ≤ b.length := by have := firsts_le (signsB b ks); rwa [signsB_len] at this
      -- kinds
      refine ⟨_, rfl, so, rfl, ⟨_, .of hS5⟩, fun D hD => ?_⟩
      refine lc_list (K := K) (a := so) (xs := vs) (fun i H' => H' D = some (.lst (((numOf (signsB b ks)).take i).map nV)) ∧ Ext [] H5 H') ⟨upd_same, .new hD⟩ (fun i H' _ ⟨_, z⟩ => .of (z.at hS5 (by simp))) ?_ ?_
      · rintro i v H' hv ⟨hX, ez⟩
        obtain ⟨st, hst, hsv⟩ := Paired.get' hpd5 hv
        have hsv := hsv.ext0 ez
        obtain ⟨t, ps, rfl, ht, hps⟩ := id hsv
        have hib : i < b.length := by have := (List.getElem?_eq_some_iff.mp hst).1; rwa [signsB_len] at this
        have hin : st ∈ firsts (signsB b ks) := mem_firsts.mpr (List.mem_of_getElem? hst)
        have ents' := ents.ext ez Lsts.nil
        refine ⟨rfl, yes ?_⟩
        refine ⟨_, rfl, _, rfl, N, nV (plc (firsts (signsB b ks)) st), rfl, ⟨kvs, nkS st, t, ez.at hN5 (by simp), ents'.keys, rfl, hsv.key, nkS_depth st, by rw [ents'.val st, if_pos hin]⟩, ?_⟩
        refine ⟨_, hX, ?_, ?_, ez.put hD⟩
        · rw [List.length_map, List.length_take, numOf_len, signsB_len]
          exact small1000 (by omega)
        · rw [upd_same, List.take_add_one, numOf_plc hst, List.map_append]
          rfl
      · rintro H6 ⟨hX, ez⟩
        rw [vlen, List.take_of_length_le (by rw [numOf_len, signsB_len]; exact Nat.le_refl _)] at hX
        -- many
        refine ⟨_, rfl, N, kvs, rfl, ez.at hN5 (by simp), ?_⟩
        exact ⟨numOf (signsB b ks), (firsts (signsB b ks)).length, D, _, _, _, by rw [el]; rfl, by omega, ki.next fb, hX, e5.trans ez⟩
end
end Nv
set_option Elab.async false
set_option linter.all false
set_option maxRecDepth 100000
namespace Nv
open PySem PySem.Spec PyProof.Rows L2
section
variable {P : Program} {w : World} {K : PySem.W.Frag} {mg : Str → Option Value} {base : Heap}
/-! ### a turned row of numbers, a pick of a tuple -/
theorem sc_law_turned : FnScope ["pool", "many", "left", "found", "turn"] ["pool", "many"] (defScope s_law_turned) := ⟨rfl, rfl, rfl, by decide +kernel, rfl, by decide +kernel, by decide +kernel⟩
def sp_law_turned : Sp := fun vs H Q _ => ∃ (p l : Addr) (n : Nat), vs = [.ref p, .int n] ∧ PoolAt H p l ∧ n ≤ 8 ∧ ∀ (ms : List Nat) (t : Addr) (H' : Hp), ms.Perm (List.range n) → H' t = some (.lst (ms.map nV)) → H t = none → PoolAt H' p l → Ext [p, l] H H' → Q (.ref t) H'
theorem ok_law_turned (T : Tx K mg) : FnOk P w K mg base CX0 2 T.law_turned.f T.law_turned.fd ["pool", "many"] sp_law_turned := by
  refine T.law_turned.F.ok sc_law_turned (fun vs H Q E h => ?_) (fun cdv A outer s H vs Q E hr h => ?_)
  · obtain ⟨p, l, n, rfl, _⟩ := h; rfl
  · obtain ⟨p, l, top, rfl, P2, h8, q⟩ := h
    refine ⟨_, (pss_cons (ps_par (i := 2) (j := 3) (by rfl) sc_law_turned.nd rfl rfl (by decide) rfl rfl (pa_cons (pe_listRg rfl (by rfl) T.n_list (prg_1 (by rfl) T.n_range (pv 1))) (pa_cons (pe_lst pa_nil) pa_nil)) (by rfl))
      (pss_cons (ps_for PassesOwn.never rfl (pi_range1 (by rfl) T.n_range (pa_cons (pv 1) pa_nil)) (pg_name (i := 4) sc_law_turned.nd rfl (.inl rfl))
        (pss_one (ps_expr (pe_bm PySem.F.plainAttrs_list PySem.F.slot_list_append PySem.F.type_list_append mt_append (pv 3) (pa_cons (pe_bm PySem.F.plainAttrs_list PySem.F.slot_list_pop PySem.F.type_list_pop mt_popAt (pv 2) (pa_cons (pe_call (ok_law_draw T) (hr.mono (by decide)) (by rfl) T.law_draw.g T.law_draw.F.kp T.law_draw.b .nil pass0 (pa_cons (pv 0) (pa_cons (pe_callB call_len_seq (by rfl) T.n_len PySem.boot_len (pa_cons (pv 2) pa_nil)) pa_nil))) pa_nil)) pa_nil)))))
      (pss_one (ps_ret (pv 3))))), ?_⟩
    refine ⟨_, rfl, _, rfl, RgOk.of_le (by omega) (by omega) (by omega) (by omega), fun lf hlf => ⟨Nat.zero_le _, fun fd hfd => ⟨_, _, rfl, ?_⟩⟩⟩
    rw [rgV_nV] at hfd ⊢
    have e3 : Ext [] H (upd H lf (.lst ((List.range top).map nV))) := .new hlf
    have e4 := e3.trans (Ext.new (L := []) (o := .lst []) hfd)
    have nlf : fd ≠ lf := fun z => by rw [z, upd_same] at hfd; cases hfd
    obtain ⟨n1, n2⟩ := P2.off hlf
    have hfd2 := e3.free hfd
    obtain ⟨n3, n4⟩ := P2.off hfd2
    refine ⟨_, rfl, _, rfl, by omega, by omega, for_range (lo := 0) (n := _) (fun i σ H' => ∃ (L F : List Nat) (y : Option V), σ = [some (.ref p), some (.int top), some (.ref lf), some (.ref fd), y] ∧ H' lf = some (.lst (L.map nV)) ∧ H' fd = some (.lst (F.map nV)) ∧ (F ++ L).Perm (List.range top) ∧ F.length = i ∧ PoolAt H' p l ∧ Ext [p, l] H H')
      ⟨List.range top, [], _, rfl, by rw [upd_ne nlf.symm, upd_same], upd_same, .refl _, rfl, P2.ext0 e4, e4.weak⟩ ?_ ?_⟩
    · rintro i σ H' hi ⟨L, F, y, rfl, hL, hF, hperm, hFl, P', e'⟩
      have hi : i < top := by have : ((top : Int)).toNat = top := Int.toNat_natCast _; omega
      have tot : F.length + L.length = top := by have := hperm.length_eq; simpa using this
      have Lpos : 0 < L.length := by omega
      refine ⟨_, rfl, .inl ⟨rfl, _, .of hF⟩, _, rfl, .inl ⟨rfl, _, .of hL⟩, _, rfl, _, rfl, lf, _, rfl, .inl (.of hL), p, l, _, rfl, P', by rw [List.length_map]; omega, by rw [List.length_map]; omega, fun k H3 k0 k1 P3 e3' => ?_⟩
      rw [List.length_map] at k1
      obtain ⟨k, rfl⟩ : ∃ j : Nat, k = (j : Int) := ⟨k.toNat, by omega⟩
      have hk : k < L.length := by omega
      have hL3 := e3' _ _ (off2 n1 n2) hL
      have hF3 := e3' _ _ (off2 n3 n4) hF
      have hy : L[k]? = some L[k] := List.getElem?_eq_getElem hk
      generalize L[k] = y at hy
      refine ⟨lf, _, _, k, nV y, rfl, rfl, hL3, by omega, by omega, by rw [List.length_map]; exact seqAt hk, at_map hy, ?_⟩
      have el : (L.map nV).eraseIdx k = (L.eraseIdx k).map nV := eraseIdx_nV nV L k
      rw [el]
      have hF4 : upd H3 lf (.lst ((L.eraseIdx k).map nV)) fd = some (.lst (F.map nV)) := by rw [upd_ne nlf]; exact hF3
      refine ⟨fd, _, _, rfl, rfl, hF4, by rw [List.length_map]; exact small1000 (by omega), L.eraseIdx k, F ++ [y], _, rfl, by rw [upd_ne nlf.symm, upd_same], ?_, ?_, ?_, ?_, ?_⟩
      · rw [upd_same, List.map_append]; rfl
      · rw [List.append_assoc]
        exact (List.Perm.append_left F (erase_perm L k y hy)).trans hperm
      · rw [List.length_append, hFl]; rfl
      · refine P3.ext (L := [lf, fd]) ((Ext.wr (by simp)).trans (.wr (by simp))) ?_ ?_
        · simp [n1.symm, n3.symm]
        · simp [n2.symm, n4.symm]
      · exact ((e'.trans e3').put' hlf).put' hfd2
    · rintro σ H' ⟨L, F, y, rfl, hL, hF, hperm, hFl, P', e'⟩
      rw [Int.toNat_natCast] at hFl
      have tot : F.length + L.length = top := by have := hperm.length_eq; simpa using this
      have hL0 : L = [] := List.eq_nil_of_length_eq_zero (by omega)
      rw [hL0, List.append_nil] at hperm
      exact ⟨_, rfl, q F fd H' hperm hF hfd2 P' e'⟩
end
end Nv
set_option Elab.async false
set_option linter.all false
set_option maxRecDepth 100000
namespace Nv
open PySem PySem.Spec PyProof.Rows L2
section
variable {P : Program} {w : World} {K : PySem.W.Frag} {mg : Str → Option Value} {base : Heap}
/-! ### a book by other numbers, and with states that no row comes to -/
/-- the rows of states, put at the numbers N -/
def putAt (N : List Nat) (rows : List State) : Book := (List.range N.length).map fun x => rows.getD (N.idxOf x) []
theorem putAt_len {N : List Nat} {rows : List State} : (putAt N rows).length = N.length := by simp [putAt]
theorem putAt_at {N : List Nat} {rows : List State} (nd : N.Nodup) {s x : Nat} (h : N[s]? = some x) (hx : x < N.length) : mvs (putAt N rows) x = rows.getD s [] := by
  refine mvs_of ?_
  unfold putAt
  rw [List.getElem?_map, List.getElem?_range hx]
  show some (rows.getD (N.idxOf x) []) = _
  rw [idx_of nd h]
/-- the moves of b, by the numbers N -/
def mvN (N : List Nat) (s : State) : State := s.map fun p => (p.1, N.getD p.2 0)
structure NumsOk (N : List Nat) (n : Nat) : Prop where
  perm : N.Perm (List.range n)
  zero : N[0]? = some 0
theorem NumsOk.nd {N : List Nat} {n : Nat} (h : NumsOk N n) : N.Nodup := h.perm.nodup_iff.mpr List.nodup_range
theorem NumsOk.len {N : List Nat} {n : Nat} (h : NumsOk N n) : N.length = n := by simpa using h.perm.length_eq
theorem NumsOk.lt {N : List Nat} {n : Nat} (h : NumsOk N n) {x : Nat} (hx : x ∈ N) : x < n := List.mem_range.mp (h.perm.mem_iff.mp hx)
theorem NumsOk.at_ {N : List Nat} {n : Nat} (h : NumsOk N n) {s : Nat} (hs : s < n) : N[s]? = some (N.getD s 0) := by
  have : s < N.length := by rw [h.len]; exact hs
  rw [List.getD_eq_getElem?_getD, List.getElem?_eq_getElem this]
  rfl
theorem NumsOk.ltD {N : List Nat} {n : Nat} (h : NumsOk N n) {s : Nat} (hs : s < n) : N.getD s 0 < n := h.lt (List.mem_of_getElem? (h.at_ hs))
/-- c is b by the numbers N; its other states come behind -/
structure PutB (b : Book) (N : List Nat) (R : List State) : Prop where
  n : NumsOk N (b.length + R.length)
  r : ∀ s ∈ R, StOk (b.length + R.length) s
theorem mvN_ok {n m : Nat} {N : List Nat} {s : State} (hN : NumsOk N m) (hn : n ≤ m) (h : StOk n s) : StOk m (mvN N s) := by
  refine ⟨by unfold mvN; rw [List.length_map]; exact h.few, ?_, fun p hp => ?_, fun p hp => ?_⟩
  · unfold mvN
    rw [List.map_map]
    exact h.rise
  · obtain ⟨q, hq, rfl⟩ := List.mem_map.mp hp
    exact h.msg q hq
  · obtain ⟨q, hq, rfl⟩ := List.mem_map.mp hp
    have := h.to q hq
    exact hN.ltD (by omega)
def putB (b : Book) (N : List Nat) (R : List State) : Book := putAt N (b.map (mvN N) ++ R)
theorem putB_len {b : Book} {N : List Nat} {R : List State} (h : PutB b N R) : (putB b N R).length = b.length + R.length := by rw [putB, putAt_len, h.n.len]
theorem putB_at {b : Book} {N : List Nat} {R : List State} (h : PutB b N R) {s x : Nat} (hs : s < b.length) (hx : N[s]? = some x) : mvs (putB b N R) x = mvN N (mvs b s) := by
  have hl := h.n.lt (List.mem_of_getElem? hx)
  unfold putB
  rw [putAt_at h.n.nd hx (by rw [h.n.len]; exact hl), List.getD_eq_getElem?_getD, List.getElem?_append_left (by rw [List.length_map]; exact hs), List.getElem?_map, mvs_lt hs]
  rfl
theorem putB_form {b : Book} {N : List Nat} {R : List State} (fb : FormB b) (h : PutB b N R) (h8 : b.length + R.length ≤ 8) : FormB (putB b N R) := by
  have hl := putB_len h
  refine ⟨by rw [hl]; have := fb.one; omega, by rw [hl]; exact h8, fun s hs => ?_⟩
  rw [hl]
  obtain ⟨x, hx, rfl⟩ := List.mem_map.mp hs
  have hx := List.mem_range.mp hx
  by_cases hi : N.idxOf x < (b.map (mvN N) ++ R).length
  · rw [List.getD_eq_getElem?_getD, List.getElem?_eq_getElem hi]
    show StOk _ (b.map (mvN N) ++ R)[N.idxOf x]
    rcases List.mem_append.mp (List.getElem_mem hi) with hm | hm
    · obtain ⟨t, ht, e⟩ := List.mem_map.mp hm
      rw [← e]
      exact mvN_ok h.n (by omega) (fb.st t ht)
    · exact h.r _ hm
  · rw [List.getD_eq_getElem?_getD, List.getElem?_eq_none (by omega)]
    exact ⟨Nat.zero_le _, .nil, (fun p hp => nomatch hp), fun p hp => nomatch hp⟩
theorem putB_rch {b : Book} {N : List Nat} {R : List State} (ok : OkB b) (h : PutB b N R) (x : Nat) : Rch (putB b N R) x ↔ ∃ s, s < b.length ∧ N[s]? = some x := by
  have fb := ok.toFormB
  constructor
  · intro hr
    induction hr with
    | zero => exact ⟨0, ok.one, h.n.zero⟩
    | step _ hp ih =>
      obtain ⟨s, hs, e⟩ := ih
      rw [putB_at h hs e] at hp
      obtain ⟨q, hq, rfl⟩ := List.mem_map.mp hp
      have := fb.to hq
      exact ⟨q.2, this, h.n.at_ (by omega)⟩
  · rintro ⟨s, hs, e⟩
    have hr := ok.reach s hs
    have : ∀ s, Rch b s → s < b.length ∧ Rch (putB b N R) (N.getD s 0) := by
      intro s hr
      induction hr with
      | zero =>
        refine ⟨ok.one, ?_⟩
        have z : N.getD 0 0 = 0 := by
          rw [List.getD_eq_getElem?_getD, h.n.zero]
          rfl
        rw [z]
        exact .zero
      | @step s p _ hp ih =>
        obtain ⟨h1, h2⟩ := ih
        have hm : (p.1, N.getD p.2 0) ∈ mvs (putB b N R) (N.getD s 0) := by
          rw [putB_at h h1 (h.n.at_ (by omega))]
          exact List.mem_map.mpr ⟨p, hp, rfl⟩
        exact ⟨fb.to hp, Rch.step h2 hm⟩
    have := (this s hr).2
    have e2 := h.n.at_ (s := s) (by omega)
    rw [e] at e2
    rw [← Option.some.inj e2] at this
    exact this
/-- all states of b by other numbers: again a book -/
theorem putB_okB {b : Book} {N : List Nat} (ok : OkB b) (h : PutB b N []) : OkB (putB b N []) := by
  have hl := putB_len h
  have h8 := ok.eight
  refine { putB_form ok.toFormB h (by simpa using h8) with reach := fun x hx => ?_ }
  rw [putB_rch ok h]
  rw [hl] at hx
  have hm : x ∈ N := h.n.perm.mem_iff.mpr (List.mem_range.mpr hx)
  obtain ⟨s, hs, e⟩ := List.mem_iff_getElem.mp hm
  have := h.n.len
  exact ⟨s, by simpa [this] using hs, by rw [List.getElem?_eq_getElem hs, e]⟩
end
end Nv
set_option Elab.async false
set_option linter.all false
set_option maxRecDepth 100000
namespace Nv
open PySem PySem.Spec PyProof.Rows L2
section
variable {P : Program} {w : World} {K : PySem.W.Frag} {mg : Str → Option Value} {base : Heap}
/-! ### the law's books by other numbers -/
theorem cat0 (ms : List Nat) : [V.int 0] ++ (ms.map fun m => nV (1 + m)) = ((0 :: ms.map (1 + ·)).map nV) := by
  rw [List.map_cons, List.map_map]
  rfl
theorem nums_of {ms : List Nat} {n : Nat} (h : ms.Perm (List.range n)) : NumsOk (0 :: ms.map (1 + ·)) (n + 1) := by
  refine ⟨?_, rfl⟩
  have e : List.range (n + 1) = 0 :: (List.range n).map (1 + ·) := by
    rw [List.range_succ_eq_map]
    congr 1
    refine List.map_congr_left fun x _ => ?_
    show x + 1 = 1 + x
    omega
  rw [e]
  exact (h.map _).cons 0
/-- a list in which the rows of states stand at the numbers N -/
def FillR (K : PySem.W.Frag) (H : Hp) (fd : Addr) (N : List Nat) (rows : List State) : Prop := ∃ xs : List V, H fd = some (.lst xs) ∧ xs.length = N.length ∧ ∀ (s : Nat) (r : State) (x : Nat), rows[s]? = some r → N[s]? = some x → ∃ v, xs[x]? = some v ∧ StV K H v r
theorem FillR.ext {K : PySem.W.Frag} {H H' : Hp} {fd : Addr} {N : List Nat} {rows : List State} {L : List Addr} (h : FillR K H fd N rows) (e : Ext L H H') (l : Lsts L H) (n : fd ∉ L) : FillR K H' fd N rows := by
  obtain ⟨xs, h1, h2, h3⟩ := h
  exact ⟨xs, e.at h1 n, h2, fun s r x a b => by
    obtain ⟨v, c, d⟩ := h3 s r x a b
    exact ⟨v, c, d.ext e l⟩⟩
theorem FillR.put {K : PySem.W.Frag} {H : Hp} {fd : Addr} {N : List Nat} {rows : List State} {xs : List V} {r : State} {v : V} {x : Nat} (h1 : H fd = some (.lst xs)) (h2 : xs.length = N.length) (h3 : ∀ (s : Nat) (r : State) (x : Nat), rows[s]? = some r → N[s]? = some x → ∃ v, xs[x]? = some v ∧ StV K H v r) (nd : N.Nodup) (hx : N[rows.length]? = some x) (lx : x < N.length) (hv : StV K H v r) :
    FillR K (upd H fd (.lst (xs.set x v))) fd N (rows ++ [r]) := by
  have e : Ext [fd] H (upd H fd (.lst (xs.set x v))) := .wr (by simp)
  have l := one_lst h1
  refine ⟨xs.set x v, upd_same, by rw [List.length_set]; exact h2, fun s r' x' a b => ?_⟩
  by_cases hs : s < rows.length
  · rw [List.getElem?_append_left hs] at a
    obtain ⟨u, c, d⟩ := h3 s r' x' a b
    refine ⟨u, ?_, d.ext e l⟩
    have : x ≠ x' := fun z => by
      subst z
      have a1 := idx_of nd hx
      have a2 := idx_of nd b
      omega
    rw [List.getElem?_set_ne this]
    exact c
  · have hl := (List.getElem?_eq_some_iff.mp a).1
    rw [List.length_append, List.length_singleton] at hl
    have es : s = rows.length := by omega
    subst es
    rw [List.getElem?_append_right (Nat.le_refl _), Nat.sub_self] at a
    cases a
    rw [hx] at b
    cases b
    exact ⟨v, by rw [List.getElem?_set_self (by omega)], hv.ext e l⟩
theorem FillR.done {K : PySem.W.Frag} {H : Hp} {N : List Nat} {rows : List State} {xs : List V} {n : Nat} (h2 : xs.length = N.length) (h3 : ∀ (s : Nat) (r : State) (x : Nat), rows[s]? = some r → N[s]? = some x → ∃ v, xs[x]? = some v ∧ StV K H v r) (hN : NumsOk N n) (hr : rows.length = n) : Paired (StV K H) xs (putAt N rows) := by
  have key : ∀ (l : List V) (b : Book), l.length = b.length → (∀ (x : Nat) (v : V), l[x]? = some v → ∃ r, b[x]? = some r ∧ StV K H v r) → Paired (StV K H) l b := by
    intro l
    induction l with
    | nil =>
      intro b hb _
      cases b with
      | nil => exact .nil
      | cons _ _ => cases hb
    | cons v r ih =>
      intro b hb h
      cases b with
      | nil => cases hb
      | cons c b =>
        obtain ⟨r0, e, hv⟩ := h 0 v rfl
        cases e
        exact .cons hv (ih b (by simpa using hb) fun x u e => h (x + 1) u (by simpa using e))
  refine key xs _ (by rw [putAt_len]; exact h2) fun x v hv => ?_
  have hx : x < N.length := by rw [← h2]; exact (List.getElem?_eq_some_iff.mp hv).1
  have hm : x ∈ N := hN.perm.mem_iff.mpr (List.mem_range.mpr (by rw [← hN.len]; exact hx))
  obtain ⟨s, hs, e⟩ := List.mem_iff_getElem.mp hm
  have hNs : N[s]? = some x := by rw [List.getElem?_eq_getElem hs, e]
  have hsr : s < rows.length := by rw [hr, ← hN.len]; exact hs
  obtain ⟨u, hu, hst⟩ := h3 s rows[s] x (List.getElem?_eq_getElem hsr) hNs
  rw [hv] at hu
  cases hu
  refine ⟨rows[s], ?_, hst⟩
  have hl : x < (putAt N rows).length := by rw [putAt_len]; exact hx
  rw [mvs_lt hl, putAt_at hN.nd hNs hx, List.getD_eq_getElem?_getD, List.getElem?_eq_getElem hsr]
  rfl
theorem cutDropN (xs : List V) (n : Nat) : cutV xs (some (n : Int)) none = xs.drop n := by
  unfold cutV
  rw [HT.sIx_nat, HT.sIx_none]
  by_cases h : n ≤ xs.length
  · rw [Nat.min_eq_left h, List.take_of_length_le (by rw [List.length_drop]; exact Nat.le_refl _)]
  · rw [Nat.min_eq_right (by omega), List.drop_of_length_le (Nat.le_refl _), List.drop_of_length_le (by omega), List.take_nil]
theorem sc_law_book_renamed : FnScope ["pool", "book", "names", "found", "state", "moves", "at", "message", "to"] ["pool", "book"] (defScope s_law_book_renamed) := ⟨rfl, rfl, rfl, by decide +kernel, rfl, by decide +kernel, by decide +kernel⟩
def sp_law_book_renamed (K : PySem.W.Frag) : Sp := fun vs H Q _ => ∃ (p l : Addr) (v : V) (b : Book), vs = [.ref p, v] ∧ PoolAt H p l ∧ BkV K H v b ∧ FormB b ∧
  ∀ (N : List Nat) (r tn : Addr) (c : V) (H' : Hp), PutB b N [] → H' r = some (.lst [c, .ref tn]) → BkV K H' c (putB b N []) → PoolAt H' p l → Ext [p, l] H H' → Q (.ref r) H'
theorem ok_law_book_renamed (T : Tx K mg) : FnOk P w K mg base CX0 3 T.law_book_renamed.f T.law_book_renamed.fd ["pool", "book"] (sp_law_book_renamed K) := by
  refine T.law_book_renamed.F.ok sc_law_book_renamed (fun vs H Q E h => ?_) (fun cdv A outer s H vs Q E hr h => ?_)
  · obtain ⟨p, l, v, b, rfl, _⟩ := h; rfl
  · obtain ⟨p, l, v, b, rfl, P0, hb, fb, q⟩ := h
    obtain ⟨m, ls, rfl, hm, hls⟩ := id hb
    have h8 := fb.eight
    have h1 := fb.one
    have llen : ls.length = b.length := Paired.len hls
    refine ⟨_, (pss_cons (ps_set (i := 2) sc_law_book_renamed.nd rfl (.inr rfl) (pe_op op_cat (pe_lst (pa_cons pe_int pa_nil)) (pe_lc (own := [("at", 6)]) rfl sc_law_book_renamed.nd (pi_list (pe_call (ok_law_turned T) (hr.mono (by decide)) (by rfl) T.law_turned.g T.law_turned.F.kp T.law_turned.b .nil pass0 (pa_cons (pv 0) (pa_cons (pe_op op_sub (pe_callB call_len_seq (by rfl) T.n_len PySem.boot_len (pa_cons (pv 1) pa_nil)) pe_int) pa_nil)))) (blkOk_by (own := [("at", 6)]) (N := ["pool", "book", "names", "found", "state", "moves", "at", "message", "to"]) (sc := defScope s_law_book_renamed) (by decide +kernel)) (fun _ _ _ _ _ => (pg_name (i := 6) sc_law_book_renamed.nd rfl (.inl rfl))) (fun _ _ _ _ _ => pts_nil) (fun _ _ _ _ _ => (pe_op op_add pe_int (pv 6))))))
      (pss_cons (ps_set (i := 3) sc_law_book_renamed.nd rfl (.inl rfl) (pe_op op_rep (pe_lst (pa_cons (pe_tup pa_nil) pa_nil)) (pe_callB call_len_seq (by rfl) T.n_len PySem.boot_len (pa_cons (pv 1) pa_nil))))
      (pss_cons (ps_for PassesOwn.never rfl (pi_enumT (by rfl) T.n_enumerate (pa_cons (pv 1) pa_nil)) (pg_tup rfl (pgs_cons (pg_name (i := 4) sc_law_book_renamed.nd rfl (.inl rfl)) (pgs_cons (pg_name (i := 5) sc_law_book_renamed.nd rfl (.inl rfl)) pgs_nil)))
        (pss_one (ps_asg (pe_callTy call_tupZ (by rfl) T.n_tuple (by decide +kernel) (pa_cons (pe_lc (own := [("message", 7), ("to", 8)]) rfl sc_law_book_renamed.nd (pi_tup (pv 5)) (blkOk_by (own := [("message", 7), ("to", 8)]) (N := ["pool", "book", "names", "found", "state", "moves", "at", "message", "to"]) (sc := defScope s_law_book_renamed) (by decide +kernel)) (fun _ _ _ _ _ => (pg_tupK (n := 2) K rfl (pgs_cons (pg_name (i := 7) sc_law_book_renamed.nd rfl (.inl rfl)) (pgs_cons (pg_name (i := 8) sc_law_book_renamed.nd rfl (.inl rfl)) pgs_nil)))) (fun _ _ _ _ _ => pts_nil) (fun _ _ _ _ _ => (pe_tup (pa_cons (pv 7) (pa_cons (pe_ix (ix_listK K) (pv 2) (pv 8) (fun _ _ => rfl)) pa_nil))))) pa_nil)) (pg_sub (pv 3) (pe_ix ix_list (pv 2) (pv 4) (fun _ _ => rfl)) set_list))))
      (pss_one (ps_ret (pe_lst (pa_cons (pe_callTy call_tupZ (by rfl) T.n_tuple (by decide +kernel) (pa_cons (pv 3) pa_nil)) (pa_cons (pv 2) pa_nil)))))))), ?_⟩
    refine ⟨(by show 1 ≤ sizeLine; decide), fun z0 hz0 => ?_⟩
    have e1 : Ext [] H (upd H z0 (.lst [.int 0])) := .new hz0
    have P1 := P0.ext0 e1
    refine ⟨_, rfl, _, rfl, m, _, rfl, .inr (e1.tup Lsts.nil hm), _, _, rfl, rfl, p, l, b.length - 1, ?_, P1, by omega, fun ms t H2 perm ht nt P2 e2 => ?_⟩
    · rw [llen]
      have : ((b.length : Int) - 1) = ((b.length - 1 : Nat) : Int) := by omega
      show [V.ref p, V.int ((b.length : Int) - 1)] ++ [] = _
      rw [this]
      rfl
    -- names
    have fz0 : z0 ≠ p ∧ z0 ≠ l := P0.off hz0
    have hz2 := e2.at (upd_same (H := H) (a := z0) (o := HO.lst [.int 0])) (off2 fz0.1 fz0.2)
    refine ⟨t, rfl, ⟨_, .of ht⟩, fun D hD => ?_⟩
    refine lc_list (K := K) (a := t) (xs := ms.map nV) (fun i H' => H' D = some (.lst (((ms.take i).map (1 + ·)).map nV)) ∧ Ext [] H2 H') ⟨by simp; exact upd_same, .new hD⟩ (fun i H' _ ⟨_, e⟩ => .of (e.at ht (by simp))) ?_ ?_
    · rintro i v H' hv ⟨hX, e⟩
      obtain ⟨x, hx, rfl⟩ := map_at hv
      have hi := (List.getElem?_eq_some_iff.mp hx).1
      have ml := perm.length_eq
      rw [List.length_range] at ml
      refine ⟨rfl, yes ⟨_, rfl, _, _, rfl, rfl, _, hX, ?_, ?_, e.put hD⟩⟩
      · rw [List.length_map, List.length_map, List.length_take]
        exact small1000 (by omega)
      · rw [upd_same, List.take_add_one, hx, List.map_append, List.map_append]
        show some (HO.lst (_ ++ [V.int (1 + (x : Int))])) = some (HO.lst (_ ++ [nV (1 + x)]))
        rw [show (1 + (x : Int)) = ((1 + x : Nat) : Int) by omega]
    rintro H3 ⟨hD3, e3⟩
    rw [List.length_map, List.take_length] at hD3
    have NO := nums_of perm
    have nb : b.length - 1 + 1 = b.length := by omega
    rw [nb] at NO
    have ml : ms.length = b.length - 1 := by simpa using perm.length_eq
    refine ⟨z0, D, _, _, rfl, rfl, e3.at hz2 (by simp), hD3, ?_, fun nm hnm => ?_⟩
    · rw [List.length_map, List.length_map]
      exact Nat.le_of_lt (small1000 (by show 1 + ms.length ≤ 1000; omega))
    obtain ⟨N, eN⟩ : ∃ N, N = 0 :: ms.map (1 + ·) := ⟨_, rfl⟩
    have enm : ([V.int 0] ++ (ms.map (1 + ·)).map nV) = N.map nV := by rw [eN]; rfl
    rw [enm]
    rw [← eN] at NO
    have e4 : Ext [p, l] H (upd H3 nm (.lst (N.map nV))) := ((e1.weak.trans e2).trans e3.weak).put2 hnm
    have P4 := (P2.ext0 e3).ext0 (Ext.new (o := HO.lst (N.map nV)) hnm)
    have hnm4 : upd H3 nm (.lst (N.map nV)) nm = some (.lst (N.map nV)) := upd_same
    clear hnm hD3 hD e3 ht e2 P2 hz2 e1 P1 nt
    generalize upd H3 nm (.lst (N.map nV)) = H4 at *
    have Nl := NO.len
    -- found = [()] * len(book)
    refine ⟨Nat.zero_le _, fun t0 ht0 => ⟨(by show 1 ≤ sizeLine; decide), fun l0 hl0 => ⟨_, rfl, m, _, rfl, .inr (((e4.trans (Ext.new ht0).weak).trans (Ext.new hl0).weak).tup P0.lsts hm), l0, _, _, rfl, rfl, upd_same, by omega, by omega, ?_, fun fd hfd => ?_⟩⟩⟩
    · show 1 * ((ls.length : Int)).toNat ≤ sizeLine
      rw [Int.toNat_natCast, Nat.one_mul]
      exact Nat.le_of_lt (small1000 (by omega))
    have eL : (List.replicate ((ls.length : Int)).toNat [V.ref t0]).flatten = List.replicate b.length (V.ref t0) := by
      rw [Int.toNat_natCast, llen]
      clear q hb hls h8 h1 llen fb NO Nl nb perm ml e4
      induction b.length with
      | zero => rfl
      | succ n ih => rw [List.replicate_succ, List.flatten_cons, ih, List.replicate_succ]; rfl
    rw [eL]
    have e5 : Ext [p, l] H (upd (upd (upd H4 t0 (.tup [])) l0 (.lst [.ref t0])) fd (.lst (List.replicate b.length (V.ref t0)))) := ((e4.put2 ht0).put2 hl0).put2 hfd
    have P5 := ((P4.ext0 (Ext.new (o := HO.tup []) ht0)).ext0 (Ext.new (o := HO.lst [V.ref t0]) hl0)).ext0 (Ext.new (o := HO.lst (List.replicate b.length (V.ref t0))) hfd)
    have hnm5 : upd (upd (upd H4 t0 (.tup [])) l0 (.lst [.ref t0])) fd (.lst (List.replicate b.length (V.ref t0))) nm = some (.lst (N.map nV)) := ((((Ext.new (L := []) ht0).trans (Ext.new hl0)).trans (Ext.new hfd))).at hnm4 (by simp)
    have hfd5 : upd (upd (upd H4 t0 (.tup [])) l0 (.lst [.ref t0])) fd (.lst (List.replicate b.length (V.ref t0))) fd = some (.lst (List.replicate b.length (V.ref t0))) := upd_same
    have ffd : H fd = none := ((e4.put2 ht0).put2 hl0).free2 hfd (off2 (P4.off (((Ext.new (L := []) ht0).trans (Ext.new hl0)).free hfd)).1 (P4.off (((Ext.new (L := []) ht0).trans (Ext.new hl0)).free hfd)).2)
    clear hfd hl0 ht0 hnm4 P4 e4
    generalize upd (upd (upd H4 t0 (.tup [])) l0 (.lst [.ref t0])) fd (.lst (List.replicate b.length (V.ref t0))) = H5 at *
    have nmfd : nm ≠ fd := fun z => by 
      rw [z, hfd5] at hnm5
      have z2 : List.replicate b.length (V.ref t0) = N.map nV := by injection (Option.some.inj hnm5)
      have z3 : (N.map nV)[0]? = some (nV 0) := at_map NO.zero
      rw [← z2, List.getElem?_replicate] at z3
      split at z3 <;> cases z3
    have F5 : FillR K H5 fd N [] := ⟨_, hfd5, by rw [List.length_replicate, Nl], fun s r x a _ => by simp at a⟩
    refine ⟨_, rfl, m, ls, rfl, e5.tup P0.lsts hm, ?_⟩
    refine for_it (walk_enumT (K := K) (a := m) (xs := ls)) (fun i σ H' => ∃ (y4 y5 : Option V), σ = [some (.ref p), some (.ref m), some (.ref nm), some (.ref fd), y4, y5, none, none, none] ∧ FillR K H' fd N ((b.take i).map (mvN N)) ∧ H' nm = some (.lst (N.map nV)) ∧ PoolAt H' p l ∧ Ext [p, l] H H') ⟨_, _, rfl, F5, hnm5, P5, e5⟩ (fun i σ H' _ ⟨_, _, _, _, _, _, e⟩ => e.tup P0.lsts hm) ?_ ?_
    · rintro i v σ H6 H' hi ⟨y4, y5, rfl, F6, hnm6, P6, e6⟩ ⟨T', x, y, rfl, hT, rfl, hx, hy⟩
      cases hx
      have hib : i < b.length := by omega
      have hy : ls[i]? = some y := hy
      obtain ⟨st, hst, a, ps, rfl, ha, hps⟩ := Paired.get' hls hy
      rw [mvs_lt hib] at hst
      obtain rfl := Option.some.inj hst
      have plen := Paired.len hps
      have five := (fb.ok hib).few
      have e7 : Ext [] H6 (upd H6 T' (.tup [.int i, .ref a])) := .new hT
      refine ⟨T', _, rfl, .of upd_same, rfl, _, _, rfl, _, _, rfl, rfl, ?_⟩
      have F7 := F6.ext e7 Lsts.nil (by simp)
      have hnm7 := e7.at hnm6 (by simp)
      have P7 := P6.ext0 e7
      have e6 := e6.trans e7.weak
      clear e7 hnm6 F6 P6 hT
      generalize upd H6 T' (.tup [.int i, .ref a]) = H7 at *
      refine ⟨_, rfl, a, rfl, ⟨_, e6.tup P0.lsts ha.sq⟩, fun D hD => ?_⟩
      refine lc_tup (K := K) (a := a) (xs := ps.map V.ref) (fun k H2 => ∃ qs : List Addr, H2 D = some (.lst (qs.map V.ref)) ∧ Paired (MvV K H2) qs (mvN N ((mvs b i).take k)) ∧ Ext [] H7 H2) ⟨[], upd_same, .nil, .new hD⟩ (fun k H2 _ ⟨_, _, _, e2⟩ => (e6.trans e2.weak).tup P0.lsts ha.sq) ?_ ?_
      · rintro k v H2 hv ⟨qs, hq, hqp, e2⟩
        obtain ⟨c, hc, rfl⟩ := map_at hv
        obtain ⟨q', hp, hcp⟩ := Paired.get' hps hc
        have hcp : SqT K H2 c [.int q'.1, .int q'.2] := (e6.trans e2.weak).tup P0.lsts hcp
        have hto := fb.to (List.mem_of_getElem? hp)
        refine ⟨c, _, rfl, hcp, rfl, _, _, rfl, _, _, rfl, rfl, rfl, yes ?_⟩
        refine ⟨_, rfl, _, rfl, _, rfl, nm, _, _, _, rfl, rfl, .of (e2.at hnm7 (by simp)), atI_nat (at_map (NO.at_ hto)), (by show 2 ≤ sizeLine; decide), fun t ht => ?_⟩
        have e3 : Ext [] H2 (upd H2 t (.tup [.int q'.1, nV (N.getD q'.2 0)])) := .new ht
        refine ⟨_, e3.at hq (by simp), ?_, qs ++ [t], by rw [upd_same, List.map_append]; rfl, ?_, (e2.trans e3).put hD⟩
        · rw [List.length_map, Paired.len hqp, mvN, List.length_map, List.length_take]
          exact small1000 (by omega)
        · rw [List.take_add_one, hp, mvN, List.map_append]
          refine Paired.snoc ?_ (Paired.imp hqp fun _ _ z => (z.ext0 e3).put (e3.at hq (by simp)))
          exact MvV.put (m := (q'.1, N.getD q'.2 0)) (.of upd_same) (e3.at hq (by simp))
      · rintro H2 ⟨qs, hq, hqp, e2⟩
        have ek : (mvs b i).take (ps.map V.ref).length = mvs b i := List.take_of_length_le (by rw [List.length_map, plen]; exact Nat.le_refl _)
        rw [ek] at hqp
        refine ⟨D, _, rfl, .of hq, fun t H3 ht hH3 => ?_⟩
        obtain ⟨o, od, rfl⟩ := hH3
        have e3 : Ext [] H2 (upd H2 t (.frz o (.tup (qs.map V.ref)))) := .new ht
        have e4 := e2.trans e3
        have F8 := F7.ext e4 Lsts.nil (by simp)
        have hnm8 := e4.at hnm7 (by simp)
        have P8 := P7.ext0 e4
        have e8 := e6.trans e4.weak
        have st8 : StV K (upd H2 t (.frz o (.tup (qs.map V.ref)))) (.ref t) (mvN N (mvs b i)) := ⟨t, qs, rfl, ⟨o, upd_same, od⟩, Paired.imp hqp fun _ _ z => z.ext0 e3⟩
        clear e4 e3 ht hq hqp e2 F7 hnm7 P7
        generalize upd H2 t (.frz o (.tup (qs.map V.ref))) = H8 at *
        obtain ⟨xs, hX, hxl, hxr⟩ := F8
        have hNi := NO.at_ hib
        have hlt := NO.ltD hib
        refine ⟨_, rfl, _, rfl, _, rfl, nm, _, _, _, rfl, rfl, .of hnm8, atI_nat (at_map hNi), fd, xs, _, _, rfl, rfl, hX, ixNat (by rw [hxl, Nl]; exact hlt), ?_⟩
        obtain ⟨fp, fl⟩ := P0.off ffd
        refine ⟨_, _, rfl, ?_, by rw [upd_ne nmfd]; exact hnm8, P8.put fp fl, e8.put' ffd⟩
        rw [List.take_add_one, mvs_lt hib, List.map_append]
        refine FillR.put hX hxl hxr NO.nd ?_ (by rw [Nl]; exact hlt) st8
        rw [List.length_map, List.length_take, Nat.min_eq_left (Nat.le_of_lt hib)]
        exact hNi
    · rintro σ H6 ⟨y4, y5, rfl, ⟨xs, hX, hxl, hxr⟩, hnm6, P6, e6⟩
      rw [llen, List.take_length] at hxr
      refine ⟨_, rfl, fd, xs, rfl, .of hX, fun t H7 ht hH7 => ?_⟩
      obtain ⟨o, od, rfl⟩ := hH7
      have e7 : Ext [] H6 (upd H6 t (.frz o (.tup xs))) := .new ht
      have hp := FillR.done hxl hxr NO (by rw [List.length_map])
      refine ⟨_, rfl, (by show 2 ≤ sizeLine; decide), fun r hr' => ?_⟩
      have e8 := e7.put2 (o := .lst [.ref t, .ref nm]) hr'
      have pb : PutB b N [] := ⟨by simpa using NO, fun s hs => nomatch hs⟩
      refine q N r nm (.ref t) _ pb upd_same ?_ (P6.ext0 e8) (e6.trans e8.weak)
      have eb : putB b N [] = putAt N (b.map (mvN N)) := by unfold putB; rw [List.append_nil]
      rw [eb]
      exact BkV.ext0 ⟨t, xs, rfl, .inl (.inr ⟨o, upd_same⟩), Paired.imp hp fun _ _ z => z.ext0 e7⟩ (.new hr')
end
end Nv
set_option Elab.async false
set_option linter.all false
set_option maxRecDepth 100000
namespace Nv
open PySem PySem.Spec PyProof.Rows L2
section
variable {P : Program} {w : World} {K : PySem.W.Frag} {mg : Str → Option Value} {base : Heap}
/-! ### the least book; copies of states -/
theorem sc_least_book : FnScope ["book"] ["book"] (defScope s_least_book) := ⟨rfl, rfl, rfl, by decide +kernel, rfl, by decide +kernel, by decide +kernel⟩
theorem ok_least_book (T : Tx K mg) : FnOk P w K mg base CX0 6 T.least_book.f T.least_book.fd ["book"] (fun vs H Q _ => ∃ (v : V) (b : Book), vs = [v] ∧ BkV K H v b ∧ OkB b ∧ ∀ (c : Book) (f : Nat → Nat) (v' : V) (H' : Hp), OkB c → Hom b c f → BkV K H' v' c → Ext [] H H' → Q v' H') := by
  refine T.least_book.F.ok sc_least_book (fun vs H Q E h => ?_) (fun cdv A outer s H vs Q E hr h => ?_)
  · obtain ⟨v, b, rfl, _⟩ := h; rfl
  · obtain ⟨v, b, rfl, hb, ok, q⟩ := h
    refine ⟨_, (pss_cons (ps_expr (pe_call (ok_made_book T) (hr.mono (by decide)) (by rfl) T.made_book.g T.made_book.F.kp T.made_book.b .nil pass0 (pa_cons (pv 0) pa_nil)))
      (pss_one (ps_ret (pe_call (ok_least_states T) (hr.mono (by decide)) (by rfl) T.least_states.g T.least_states.F.kp T.least_states.b .nil pass0 (pa_cons (pv 0) pa_nil))))), ?_⟩
    refine ⟨_, rfl, v, b, rfl, hb, ok, fun H1 e1 => ?_⟩
    refine ⟨_, rfl, v, b, rfl, hb.ext0 e1, ok.toFormB, fun ks m v' H' lb h' e' => ?_⟩
    have of := lb.ok ok
    have mo := metO of.toFormB
    exact q _ _ v' H' (ren_okB of.toFormB) ((lb.hom ok.toFormB).comp ok.toFormB (ren_hom of mo.toMet)) h' (e1.trans e')
theorem Paired.of_get {α β : Type} {F : α → β → Prop} : ∀ {l₁ : List α} {l₂ : List β}, l₁.length = l₂.length → (∀ (i : Nat) (a : α) (b : β), l₁[i]? = some a → l₂[i]? = some b → F a b) → Paired F l₁ l₂
  | [], [], _, _ => .nil
  | [], _ :: _, h, _ => by simp at h
  | _ :: _, [], h, _ => by simp at h
  | a :: r, b :: s, h, f => .cons (f 0 a b rfl rfl) (Paired.of_get (by simpa using h) fun i x y h1 h2 => f (i + 1) x y (by simpa using h1) (by simpa using h2))
/-- states of c stand for states of b -/
structure Cp (b c : Book) (g : List Nat) : Prop where
  len : g.length = c.length
  zero : g[0]? = some 0
  lt : ∀ s, s < c.length → g.getD s 0 < b.length
  mv : ∀ s, s < c.length → mvs b (g.getD s 0) = (mvs c s).map fun p => (p.1, g.getD p.2 0)
  to : ∀ s, ∀ p ∈ mvs c s, p.2 < c.length
theorem range_getD {n s : Nat} (h : s < n) : (List.range n).getD s 0 = s := getD_at (List.getElem?_range h)
theorem Cp.first {b : Book} (fb : FormB b) : Cp b b (List.range b.length) where
  len := List.length_range
  zero := List.getElem?_range fb.one
  lt := fun s hs => by rw [range_getD hs]; exact hs
  mv := fun s hs => by
    rw [range_getD hs]
    conv => lhs; rw [← List.map_id (mvs b s)]
    refine List.map_congr_left fun p hp => ?_
    show p = (p.1, (List.range b.length).getD p.2 0)
    rw [range_getD (fb.to hp)]
  to := fun s p hp => fb.to hp
theorem mvs_app {c : Book} {x : State} {s : Nat} (h : s < c.length) : mvs (c ++ [x]) s = mvs c s := by
  refine mvs_of ?_
  rw [List.getElem?_append_left h]
  exact mvs_lt h
theorem mvs_app2 {c : Book} {x : State} : mvs (c ++ [x]) c.length = x := by
  refine mvs_of ?_
  rw [List.getElem?_append_right (Nat.le_refl _), Nat.sub_self]
  rfl
theorem Cp.copy {b c : Book} {g : List Nat} (h : Cp b c g) {s : Nat} (hs : s < c.length) : Cp b (c ++ [mvs c s]) (g ++ [g.getD s 0]) := by
  have old : ∀ {x : Nat}, x < c.length → (g ++ [g.getD s 0]).getD x 0 = g.getD x 0 := by
    intro x hx
    rw [List.getD_eq_getElem?_getD, List.getElem?_append_left (by rw [h.len]; exact hx), ← List.getD_eq_getElem?_getD]
  have new : (g ++ [g.getD s 0]).getD c.length 0 = g.getD s 0 := by
    refine getD_at ?_
    rw [← h.len, List.getElem?_append_right (Nat.le_refl _), Nat.sub_self]
    rfl
  have mapOld : ∀ {x : Nat}, (mvs c x).map (fun p => (p.1, (g ++ [g.getD s 0]).getD p.2 0)) = (mvs c x).map fun p => (p.1, g.getD p.2 0) := by
    intro x
    refine List.map_congr_left fun p hp => ?_
    rw [old (h.to x p hp)]
  have cases' : ∀ {x : Nat}, x < (c ++ [mvs c s]).length → x < c.length ∨ x = c.length := by
    intro x hx
    rw [List.length_append, List.length_singleton] at hx
    omega
  refine ⟨by rw [List.length_append, List.length_append, h.len]; rfl, ?_, fun x hx => ?_, fun x hx => ?_, fun x p hp => ?_⟩
  · rw [List.getElem?_append_left (by rw [h.len]; omega)]
    exact h.zero
  · rcases cases' hx with hx | rfl
    · rw [old hx]; exact h.lt x hx
    · rw [new]; exact h.lt s hs
  · rcases cases' hx with hx | rfl
    · rw [old hx, mvs_app hx, mapOld]; exact h.mv x hx
    · rw [new, mvs_app2, mapOld]; exact h.mv s hs
  · rw [List.length_append, List.length_singleton]
    by_cases hx : x < c.length
    · rw [mvs_app hx] at hp
      have := h.to x p hp
      omega
    · by_cases e : x = c.length
      · subst e
        rw [mvs_app2] at hp
        have := h.to s p hp
        omega
      · rw [mvs_out (by rw [List.length_append, List.length_singleton]; omega)] at hp
        cases hp
theorem mvs_set {c : Book} {o x : Nat} {st : State} (ho : o < c.length) : mvs (c.set o st) x = if x = o then st else mvs c x := by
  unfold mvs
  rw [List.getD_eq_getElem?_getD, List.getElem?_set]
  by_cases e : o = x
  · subst e
    rw [if_pos rfl, if_pos ho, if_pos rfl]
    rfl
  · rw [if_neg e, if_neg (fun z => e z.symm), List.getD_eq_getElem?_getD]
theorem Cp.lead {b c : Book} {g : List Nat} (h : Cp b c g) {o k t : Nat} {p : Nat × Nat} (ho : o < c.length) (hk : (mvs c o)[k]? = some p) (ht : t < c.length) (e : g.getD t 0 = g.getD p.2 0) : Cp b (c.set o ((mvs c o).set k (p.1, t))) g := by
  refine ⟨by rw [List.length_set]; exact h.len, h.zero, fun x hx => ?_, fun x hx => ?_, fun x q hq => ?_⟩
  · rw [List.length_set] at hx; exact h.lt x hx
  · rw [List.length_set] at hx
    rw [mvs_set ho]
    by_cases ex : x = o
    · subst ex
      rw [if_pos rfl, h.mv x hx, List.map_set]
      refine List.ext_getElem? fun i => ?_
      rw [List.getElem?_set]
      by_cases ei : k = i
      · subst ei
        have hl : k < (mvs c x).length := (List.getElem?_eq_some_iff.mp hk).1
        rw [if_pos rfl, if_pos (by rw [List.length_map]; exact hl), List.getElem?_map, hk]
        show some (p.1, g.getD p.2 0) = some (p.1, g.getD t 0)
        rw [e]
      · rw [if_neg ei]
    · rw [if_neg ex]
      exact h.mv x hx
  · rw [List.length_set]
    rw [mvs_set ho] at hq
    by_cases ex : x = o
    · rw [if_pos ex] at hq
      rcases List.mem_or_eq_of_mem_set hq with hq | rfl
      · exact h.to o q hq
      · exact ht
    · rw [if_neg ex] at hq
      exact h.to x q hq
theorem Cp.ok {b c : Book} {g : List Nat} {F : List Nat} (fb : FormB b) (h : Cp b c g) (m : Met c F) (h8 : c.length ≤ 8) : OkB (rename c F) := by
  refine m.okB h8 fun s hs => ?_
  have so := fb.ok (h.lt s hs)
  rw [h.mv s hs] at so
  have e1 : ((mvs c s).map fun p => (p.1, g.getD p.2 0)).map (·.1) = (mvs c s).map (·.1) := by rw [List.map_map]; rfl
  refine ⟨?_, ?_, fun p hp => ?_⟩
  · have := so.few
    rwa [List.length_map] at this
  · have := so.rise
    rwa [e1] at this
  · exact so.msg (p.1, g.getD p.2 0) (List.mem_map.mpr ⟨p, hp, rfl⟩)
theorem Cp.hom {b c : Book} {g : List Nat} {F : List Nat} (h : Cp b c g) (m : Met c F) : Hom (rename c F) b fun j => g.getD (F.getD j 0) 0 where
  zero := by
    show g.getD (F.getD 0 0) 0 = 0
    rw [getD_at m.zero, getD_at h.zero]
  lt := fun j hj => by
    rw [rename_len] at hj
    have e : F[j]? = some F[j] := List.getElem?_eq_getElem hj
    rw [getD_at e]
    exact h.lt _ (m.lt _ (List.getElem_mem hj))
  mv := fun j hj => by
    rw [rename_len] at hj
    have e : F[j]? = some F[j] := List.getElem?_eq_getElem hj
    show mvs b (g.getD (F.getD j 0) 0) = _
    rw [getD_at e, rename_at e, h.mv _ (m.lt _ (List.getElem_mem hj)), List.map_map]
    refine List.map_congr_left fun p hp => ?_
    have hm := m.cl _ (List.getElem_mem hj) p hp
    have hl := List.idxOf_lt_length_of_mem hm
    show (p.1, g.getD p.2 0) = (p.1, g.getD (F.getD (F.idxOf p.2) 0) 0)
    rw [getD_at (show F[F.idxOf p.2]? = some p.2 by rw [List.getElem?_eq_getElem hl]; exact congrArg some (List.getElem_idxOf hl))]
theorem putB_hom {b : Book} {N : List Nat} (fb : FormB b) (h : PutB b N []) : Hom (putB b N []) b N.idxOf where
  zero := idx_of h.n.nd h.n.zero
  lt := fun x hx => by
    rw [putB_len h] at hx
    have hm : x ∈ N := h.n.perm.mem_iff.mpr (List.mem_range.mpr hx)
    have := List.idxOf_lt_length_of_mem hm
    rw [h.n.len] at this
    simpa using this
  mv := fun x hx => by
    rw [putB_len h] at hx
    have hm : x ∈ N := h.n.perm.mem_iff.mpr (List.mem_range.mpr hx)
    have hl := List.idxOf_lt_length_of_mem hm
    have hs : N.idxOf x < b.length := by rw [h.n.len] at hl; simpa using hl
    have hN : N[N.idxOf x]? = some x := by rw [List.getElem?_eq_getElem hl]; exact congrArg some (List.getElem_idxOf hl)
    rw [putB_at h hs hN]
    unfold mvN
    rw [List.map_map]
    conv => lhs; rw [← List.map_id (mvs b (N.idxOf x))]
    refine List.map_congr_left fun p hp => ?_
    show p = (p.1, N.idxOf (N.getD p.2 0))
    have hp2 := fb.to hp
    have : p.2 < N.length := by rw [h.n.len]; simpa using hp2
    have e : N[p.2]? = some (N.getD p.2 0) := by rw [List.getD_eq_getElem?_getD, List.getElem?_eq_getElem this]; rfl
    rw [idx_of h.n.nd e]
/-- a list of lists of moves that may be written -/
structure RawL (K : PySem.W.Frag) (H : Hp) (m : Addr) (as : List Addr) (c : Book) : Prop where
  at_ : H m = some (.lst (as.map V.ref))
  nd : as.Nodup
  off : m ∉ as
  st : Paired (fun a s => ∃ ps : List Addr, H a = some (.lst (ps.map V.ref)) ∧ Paired (MvV K H) ps s) as c
theorem RawL.ext {K : PySem.W.Frag} {H H' : Hp} {L : List Addr} {m : Addr} {as : List Addr} {c : Book} (h : RawL K H m as c) (e : Ext L H H') (l : Lsts L H) (hm : m ∉ L) (ha : ∀ a ∈ as, a ∉ L) : RawL K H' m as c := by
  refine ⟨e.at h.at_ hm, h.nd, h.off, Paired.of_get (Paired.len h.st) fun i a s h1 h2 => ?_⟩
  obtain ⟨s', e1, ps, e2, e3⟩ := Paired.get' h.st h1
  rw [h2] at e1
  cases e1
  exact ⟨ps, e.at e2 (ha a (List.mem_of_getElem? h1)), Paired.imp e3 fun _ _ z => e.tup l z⟩
theorem RawL.wr {K : PySem.W.Frag} {H : Hp} {m : Addr} {as : List Addr} {c : Book} {o k : Nat} {a nt : Addr} {ps : List Addr} {s : State} {q : Nat × Nat} (h : RawL K H m as c) (ha : as[o]? = some a) (hs : c[o]? = some s) (hp : H a = some (.lst (ps.map V.ref))) (hps : Paired (MvV K H) ps s) (hq : MvV K H nt q) :
    RawL K (upd H a (.lst (ps.set k nt |>.map V.ref))) m as (c.set o (s.set k q)) := by
  have am : m ≠ a := fun z => h.off (by rw [z]; exact List.mem_of_getElem? ha)
  refine ⟨by rw [upd_ne am]; exact h.at_, h.nd, h.off, Paired.of_get (by rw [List.length_set]; exact Paired.len h.st) fun i x t h1 h2 => ?_⟩
  by_cases e : o = i
  · subst e
    rw [ha] at h1
    cases h1
    rw [List.getElem?_set_self (List.getElem?_eq_some_iff.mp hs).1] at h2
    cases h2
    exact ⟨_, upd_same, Paired.set (hq.put hp) k (Paired.imp hps fun _ _ z => z.put hp)⟩
  · rw [List.getElem?_set_ne e] at h2
    have hx : x ≠ a := fun z => by
      subst z
      exact e ((List.getElem?_inj (List.getElem?_eq_some_iff.mp ha).1 h.nd).mp (ha.trans h1.symm))
    obtain ⟨s', e1, qs, e2, e3⟩ := Paired.get' h.st h1
    rw [h2] at e1
    cases e1
    exact ⟨qs, by rw [upd_ne hx]; exact e2, Paired.imp e3 fun _ _ z => z.put hp⟩
theorem RawL.ls {K : PySem.W.Frag} {H : Hp} {m : Addr} {as : List Addr} {c : Book} (h : RawL K H m as c) : LbV K H (.ref m) c := by
  refine ⟨m, _, rfl, h.at_, ?_⟩
  have key : ∀ {as : List Addr} {c : Book}, Paired (fun a s => ∃ ps : List Addr, H a = some (.lst (ps.map V.ref)) ∧ Paired (MvV K H) ps s) as c → Paired (LsV K H) (as.map V.ref) c := by
    intro as c h
    induction h with
    | nil => exact .nil
    | cons r _ ih =>
      obtain ⟨ps, h1, h2⟩ := r
      exact .cons ⟨_, ps, rfl, h1, h2⟩ ih
  exact key h.st
theorem RawL.get {K : PySem.W.Frag} {H : Hp} {m : Addr} {as : List Addr} {c : Book} (h : RawL K H m as c) {s : Nat} (hs : s < c.length) : ∃ (a : Addr) (ps : List Addr), as[s]? = some a ∧ H a = some (.lst (ps.map V.ref)) ∧ Paired (MvV K H) ps (mvs c s) := by
  obtain ⟨a, h1, ps, h2, h3⟩ := Paired.get h.st (mvs_lt hs)
  exact ⟨a, ps, h1, h2, h3⟩
theorem sc_law_book_copied : FnScope ["pool", "book", "states", "moves", "turn", "state", "other", "at", "message", "to"] ["pool", "book", "states"] (defScope s_law_book_copied) := ⟨rfl, rfl, rfl, by decide +kernel, rfl, by decide +kernel, by decide +kernel⟩
def sp_law_book_copied (K : PySem.W.Frag) : Sp := fun vs H Q _ => ∃ (p l : Addr) (v : V) (b : Book) (S : Nat), vs = [.ref p, v, .int S] ∧ PoolAt H p l ∧ BkV K H v b ∧ OkB b ∧ b.length ≤ S ∧ S ≤ 8 ∧
  ∀ (c : Book) (f : Nat → Nat) (v' : V) (H' : Hp), OkB c → c.length ≤ S → Hom c b f → BkV K H' v' c → PoolAt H' p l → Ext [p, l] H H' → Q v' H'
theorem ok_law_book_copied (T : Tx K mg) : FnOk P w K mg base CX0 3 T.law_book_copied.f T.law_book_copied.fd ["pool", "book", "states"] (sp_law_book_copied K) := by
  refine T.law_book_copied.F.ok sc_law_book_copied (fun vs H Q E h => ?_) (fun cdv A outer s H vs Q E hr h => ?_)
  · obtain ⟨p, l, v, b, S, rfl, _⟩ := h; rfl
  · obtain ⟨p, l, v, b, S, rfl, P0, hb, ok, hbS, hS, q⟩ := h
    have fb := ok.toFormB
    obtain ⟨a, ls, rfl, ha, hls⟩ := id hb
    have llen := Paired.len hls
    have h8 := fb.eight
    have h1 := fb.one
    refine ⟨_, (pss_cons (ps_setLc (i := 3) (own := [("state", 5)]) rfl sc_law_book_copied.nd rfl rfl (sw_true rfl rfl rfl (by decide +kernel)) (pi_tup (pv 1)) (blkOk_by (own := [("state", 5)]) (N := ["pool", "book", "states", "moves", "turn", "state", "other", "at", "message", "to"]) (sc := defScope s_law_book_copied) (by decide +kernel)) (fun _ _ _ _ _ => (pg_name (i := 5) sc_law_book_copied.nd rfl (.inl rfl))) (fun _ _ _ _ _ => pts_nil) (fun _ _ _ _ _ => (pe_callTy (call_list_ofK K) (by rfl) T.n_list (by decide +kernel) (pa_cons (pv 5) pa_nil))))
      (pss_cons (ps_for PassesOwn.never rfl (pi_range1 (by rfl) T.n_range (pa_cons (pe_call (ok_law_draw T) (hr.mono (by decide)) (by rfl) T.law_draw.g T.law_draw.F.kp T.law_draw.b .nil pass0 (pa_cons (pv 0) (pa_cons pe_int pa_nil))) pa_nil)) (pg_name (i := 4) sc_law_book_copied.nd rfl (.inl rfl))
        (pss_one (ps_if (pt_cmpR op_lt (pe_callB call_len_seq (by rfl) T.n_len PySem.boot_len (pa_cons (pv 3) pa_nil)) (pv 2) (nomark _))
          (pss_cons (ps_set (i := 5) sc_law_book_copied.nd rfl (.inl rfl) (pe_call (ok_law_draw T) (hr.mono (by decide)) (by rfl) T.law_draw.g T.law_draw.F.kp T.law_draw.b .nil pass0 (pa_cons (pv 0) (pa_cons (pe_callB call_len_seq (by rfl) T.n_len PySem.boot_len (pa_cons (pv 3) pa_nil)) pa_nil))))
          (pss_cons (ps_expr (pe_bm PySem.F.plainAttrs_list PySem.F.slot_list_append PySem.F.type_list_append mt_append (pv 3) (pa_cons (pe_callTy call_list_of (by rfl) T.n_list (by decide +kernel) (pa_cons (pe_ix ix_list (pv 3) (pv 5) (fun _ _ => rfl)) pa_nil)) pa_nil)))
          (pss_one (ps_for PassesOwn.never rfl (pi_range1 (by rfl) T.n_range (pa_cons (pe_callB call_len_seq (by rfl) T.n_len PySem.boot_len (pa_cons (pv 3) pa_nil)) pa_nil)) (pg_name (i := 6) sc_law_book_copied.nd rfl (.inl rfl))
            (pss_one (ps_for PassesOwn.never rfl (pi_range1 (by rfl) T.n_range (pa_cons (pe_callB call_len_seq (by rfl) T.n_len PySem.boot_len (pa_cons (pe_ix ix_list (pv 3) (pv 6) (fun _ _ => rfl)) pa_nil)) pa_nil)) (pg_name (i := 7) sc_law_book_copied.nd rfl (.inl rfl))
              (pss_cons (ps_asg (pe_ix ix_list (pe_ix ix_list (pv 3) (pv 6) (fun _ _ => rfl)) (pv 7) (fun _ _ => rfl)) (pg_tup rfl (pgs_cons (pg_name (i := 8) sc_law_book_copied.nd rfl (.inl rfl)) (pgs_cons (pg_name (i := 9) sc_law_book_copied.nd rfl (.inl rfl)) pgs_nil))))
              (pss_one (ps_if (PW.pt (pw_and (pt_cmpR op_eq (pv 9) (pv 5) (nomark _)) (pw_and1 (pt_cmpR op_eq (pe_call (ok_law_draw T) (hr.mono (by decide)) (by rfl) T.law_draw.g T.law_draw.F.kp T.law_draw.b .nil pass0 (pa_cons (pv 0) (pa_cons pe_int pa_nil))) pe_int (nomark _)))))
                (pss_one (ps_asg (pe_tup (pa_cons (pv 8) (pa_cons (pe_op op_sub (pe_callB call_len_seq (by rfl) T.n_len PySem.boot_len (pa_cons (pv 3) pa_nil)) pe_int) pa_nil))) (pg_sub (pe_ix ix_list (pv 3) (pv 6) (fun _ _ => rfl)) (pv 7) set_list)))
                pss_nil)))))))))
          pss_nil)))
      (pss_one (ps_ret (pe_call (ok_law_book_meeting T) (hr.mono (by decide)) (by rfl) T.law_book_meeting.g T.law_book_meeting.F.kp T.law_book_meeting.b .nil pass0 (pa_cons (pv 3) pa_nil)))))), ?_⟩
    -- moves
    refine ⟨_, rfl, a, rfl, ⟨_, ha⟩, fun D hD => ?_⟩
    refine lc_tup (K := K) (a := a) (xs := ls) (fun i H' => ∃ as : List Addr, RawL K H' D as (b.take i) ∧ (∀ x ∈ as, H x = none) ∧ Ext [] H H') ⟨[], ⟨upd_same, .nil, by simp, .nil⟩, fun x hx => (nomatch hx), .new hD⟩ (fun i H' _ ⟨_, _, _, e⟩ => e.tup Lsts.nil ha) ?_ ?_
    · rintro i v H' hv ⟨as, R, hf, e⟩
      obtain ⟨st, hst, c, ps, rfl, hc, hps⟩ := Paired.get' hls hv
      have hib : i < b.length := (List.getElem?_eq_some_iff.mp hst).1
      refine ⟨rfl, yes ?_⟩
      refine ⟨_, rfl, c, _, rfl, .inr (e.tup Lsts.nil hc.sq), fun nl hnl => ?_⟩
      have e1 : Ext [] H' (upd H' nl (.lst (ps.map V.ref))) := .new hnl
      have R1 := R.ext e1 Lsts.nil (by simp) (by simp)
      have nlD : D ≠ nl := ne_of_none R.at_ hnl
      have nla : nl ∉ as := fun z => by
        obtain ⟨j, hj⟩ := List.mem_iff_getElem?.mp z
        obtain ⟨_, _, _, h2, _⟩ := Paired.get' R.st hj
        rw [h2] at hnl
        cases hnl
      refine ⟨_, R1.at_, ?_, as ++ [nl], ⟨by rw [upd_same, List.map_append]; rfl, ?_, ?_, ?_⟩, fun x hx => ?_, (e.trans e1).put hD⟩
      · rw [List.length_map, Paired.len R.st, List.length_take]
        exact small1000 (by omega)
      · exact List.nodup_append.mpr ⟨R.nd, by simp, fun x hx y hy e => nla (by rw [← List.mem_singleton.mp hy, ← e]; exact hx)⟩
      · rw [List.mem_append]
        rintro (z | z)
        · exact R.off z
        · exact nlD (List.mem_singleton.mp z)
      · rw [List.take_add_one, hst]
        have w : ∀ {x : Addr} {s : State}, x ≠ D → (∃ ps : List Addr, upd H' nl (.lst (ps.map V.ref)) x = some (.lst (ps.map V.ref)) ∧ True) → True := fun _ _ => trivial
        refine Paired.snoc ⟨ps, by rw [upd_ne nlD.symm, upd_same], Paired.imp hps fun _ _ z => (MvV.ext0 z (e.trans e1)).put R1.at_⟩ (Paired.of_get (Paired.len R1.st) fun i x t h1 h2 => ?_)
        obtain ⟨s', e1', qs, e2, e3⟩ := Paired.get' R1.st h1
        rw [h2] at e1'
        cases e1'
        have hx : x ≠ D := fun z => R.off (by rw [← z]; exact List.mem_of_getElem? h1)
        exact ⟨qs, by rw [upd_ne hx]; exact e2, Paired.imp e3 fun _ _ z => z.put R1.at_⟩
      · rcases List.mem_append.mp hx with hx | hx
        · exact hf x hx
        · rw [List.mem_singleton.mp hx]
          exact e.free hnl
    rintro H1 ⟨as, R, hf, e1⟩
    rw [llen, List.take_length] at R
    have P1 := P0.ext0 e1
    -- turns
    refine ⟨_, rfl, p, l, 4, rfl, P1, by decide, by decide, fun r H2 r0 r4 P2 e2 => ?_⟩
    have offF : ∀ {x : Addr}, H x = none → x ∉ [p, l] := fun hx => off2 (P0.off hx).1 (P0.off hx).2
    have R2 := R.ext e2 P1.lsts (offF hD) fun x hx => offF (hf x hx)
    have e3 : Ext [p, l] H H2 := e1.weak.trans e2
    clear e1 e2 R P1
    refine ⟨_, rfl, by omega, by omega, for_range (lo := 0) (n := _) (fun i σ H' => ∃ (c : Book) (g : List Nat) (as : List Addr) (y4 y5 y6 y7 y8 y9 : Option V), σ = [some (.ref p), some (.ref a), some (.int S), some (.ref D), y4, y5, y6, y7, y8, y9] ∧ RawL K H' D as c ∧ (∀ x ∈ as, H x = none) ∧ Cp b c g ∧ c.length ≤ S ∧ PoolAt H' p l ∧ Ext [p, l] H H')
      ⟨b, _, as, _, _, _, _, _, _, rfl, R2, hf, .first fb, hbS, P2, e3⟩ ?_ ?_⟩
    · rintro i σ H3 hi ⟨c, g, as, y4, y5, y6, y7, y8, y9, rfl, R3, hf, cp, hcS, P3, e3⟩
      have alen := Paired.len R3.st
      have c1 : 1 ≤ c.length := by rw [← cp.len]; exact (List.getElem?_eq_some_iff.mp cp.zero).1
      simp only [Int.zero_add]
      -- if len(moves) < states
      refine ⟨_, rfl, D, _, rfl, .inl (.of R3.at_), _, rfl, _, _, rfl, rfl, _, rfl, ite2 (fun z => ?_) (fun _ => ⟨c, g, as, _, _, _, _, _, _, rfl, R3, hf, cp, hcS, P3, e3⟩)⟩
      have z := of_decide_eq_true z
      rw [List.length_map, alen] at z
      refine ⟨_, rfl, _, rfl, D, _, rfl, .inl (.of R3.at_), p, l, _, rfl, P3, by rw [List.length_map, alen]; omega, by rw [List.length_map, alen]; omega, fun r H4 r0 r1 P4 e4 => ?_⟩
      rw [List.length_map, alen] at r1
      obtain ⟨s, rfl⟩ : ∃ s : Nat, r = s := ⟨r.toNat, by omega⟩
      have hs : s < c.length := by omega
      have R4 := R3.ext e4 P3.lsts (offF hD) fun x hx => offF (hf x hx)
      obtain ⟨x, ps, hx, hxl, hps⟩ := R4.get hs
      -- moves.append(list(moves[state]))
      refine ⟨_, rfl, .inl ⟨rfl, _, .of R4.at_⟩, _, rfl, _, rfl, D, _, _, _, rfl, rfl, .of R4.at_, atI_nat (at_map hx), x, _, rfl, .inl (.of hxl), fun nl hnl => ?_⟩
      have e5 : Ext [] H4 (upd H4 nl (.lst (ps.map V.ref))) := .new hnl
      have R5 := R4.ext e5 Lsts.nil (by simp) (by simp)
      have nlD : D ≠ nl := ne_of_none R4.at_ hnl
      have nla : nl ∉ as := fun z => by
        obtain ⟨j, hj⟩ := List.mem_iff_getElem?.mp z
        obtain ⟨_, _, _, h2, _⟩ := Paired.get' R4.st hj
        rw [h2] at hnl
        cases hnl
      have P5 := P4.ext0 e5
      have e45 := (e3.trans e4).trans e5.weak
      have nlH : H nl = none := (e3.trans e4).free2 hnl (off2 (P4.off hnl).1 (P4.off hnl).2)
      refine ⟨D, _, _, rfl, rfl, R5.at_, by rw [List.length_map, alen]; exact small1000 (by omega), ?_⟩
      have R6 : RawL K (upd (upd H4 nl (.lst (ps.map V.ref))) D (.lst (as.map V.ref ++ [V.ref nl]))) D (as ++ [nl]) (c ++ [mvs c s]) := by
        refine ⟨by rw [upd_same, List.map_append]; rfl, ?_, ?_, ?_⟩
        · exact List.nodup_append.mpr ⟨R4.nd, by simp, fun x hx y hy e => nla (by rw [← List.mem_singleton.mp hy, ← e]; exact hx)⟩
        · rw [List.mem_append]
          rintro (z | z)
          · exact R4.off z
          · exact nlD (List.mem_singleton.mp z)
        · refine Paired.snoc ⟨ps, by rw [upd_ne nlD.symm, upd_same], Paired.imp hps fun _ _ z => (MvV.ext0 z e5).put R5.at_⟩ (Paired.of_get (Paired.len R5.st) fun i x t h1 h2 => ?_)
          obtain ⟨s', e1', qs, e2, e3⟩ := Paired.get' R5.st h1
          rw [h2] at e1'
          cases e1'
          have hx : x ≠ D := fun z => R4.off (by rw [← z]; exact List.mem_of_getElem? h1)
          exact ⟨qs, by rw [upd_ne hx]; exact e2, Paired.imp e3 fun _ _ z => z.put R5.at_⟩
      have hf6 : ∀ x ∈ as ++ [nl], H x = none := fun x hx => by
        rcases List.mem_append.mp hx with hx | hx
        · exact hf x hx
        · rw [List.mem_singleton.mp hx]; exact nlH
      have cp6 := cp.copy hs
      have P6 := P5.put (o := .lst (as.map V.ref ++ [V.ref nl])) (P0.off hD).1 (P0.off hD).2
      have e6 := e45.put' (o := .lst (as.map V.ref ++ [V.ref nl])) hD
      have hnew : (g ++ [g.getD s 0]).getD c.length 0 = (g ++ [g.getD s 0]).getD s 0 := by
        rw [getD_at (show (g ++ [g.getD s 0])[c.length]? = some (g.getD s 0) by rw [← cp.len, List.getElem?_append_right (Nat.le_refl _), Nat.sub_self]; rfl), List.getD_eq_getElem?_getD (l := g ++ [g.getD s 0]) (i := s), List.getElem?_append_left (by rw [cp.len]; exact hs), ← List.getD_eq_getElem?_getD]
      have l6 : (c ++ [mvs c s]).length = c.length + 1 := by rw [List.length_append]; rfl
      have hS6 : c.length + 1 ≤ S := by omega
      clear R5 R4 R3 P5 P4 P3 e45 e5 e4 e3 hxl hps hx hnl cp z nlD nla nlH alen
      generalize upd (upd H4 nl (.lst (ps.map V.ref))) D (.lst (as.map V.ref ++ [V.ref nl])) = H6 at *
      generalize as ++ [nl] = as6 at *
      generalize g ++ [g.getD s 0] = g6 at *
      generalize hc6 : c ++ [mvs c s] = c6 at *
      have alen := Paired.len R6.st
      -- for other in range(len(moves))
      refine ⟨_, rfl, D, _, rfl, .inl (.of R6.at_), _, rfl, by rw [List.length_map, alen]; omega, by rw [List.length_map, alen]; omega, ?_⟩
      rw [List.length_map, alen]
      refine for_range (lo := 0) (n := _) (fun o σ H' => ∃ (c7 : Book) (y6 y7 y8 y9 : Option V), σ = [some (.ref p), some (.ref a), some (.int S), some (.ref D), some (.int i), some (.int s), y6, y7, y8, y9] ∧ RawL K H' D as6 c7 ∧ Cp b c7 g6 ∧ c7.length = c6.length ∧ PoolAt H' p l ∧ Ext [p, l] H H') ⟨c6, _, _, _, _, rfl, R6, cp6, rfl, P6, e6⟩ ?_ ?_
      · rintro o σ H7 ho ⟨c7, y6, y7, y8, y9, rfl, R7, cp7, l7, P7, e7⟩
        have ho : o < c7.length := by omega
        obtain ⟨x, ps, hx, hxl, hps⟩ := R7.get ho
        have plen := Paired.len hps
        simp only [Int.zero_add]
        have pl5 : (mvs c7 o).length ≤ 5 := by
          have so := (fb.ok (cp7.lt o ho)).few
          rw [cp7.mv o ho, List.length_map] at so
          exact so
        -- for at in range(len(moves[other]))
        refine ⟨_, rfl, _, rfl, D, _, _, _, rfl, rfl, .of R7.at_, atI_nat (at_map hx), x, _, rfl, .inl (.of hxl), _, rfl, by rw [List.length_map]; omega, by rw [List.length_map]; omega, ?_⟩
        rw [List.length_map, plen]
        refine for_range (lo := 0) (n := _) (fun k σ H' => ∃ (c8 : Book) (y7 y8 y9 : Option V), σ = [some (.ref p), some (.ref a), some (.int S), some (.ref D), some (.int i), some (.int s), some (.int o), y7, y8, y9] ∧ RawL K H' D as6 c8 ∧ Cp b c8 g6 ∧ c8.length = c6.length ∧ (mvs c8 o).length = (mvs c7 o).length ∧ PoolAt H' p l ∧ Ext [p, l] H H') ⟨c7, _, _, _, rfl, R7, cp7, l7, rfl, P7, e7⟩ ?_ ?_
        · rintro k σ H8 hk ⟨c8, y7, y8, y9, rfl, R8, cp8, l8, lm, P8, e8⟩
          have ho8 : o < c8.length := by omega
          obtain ⟨x, ps, hx, hxl, hps⟩ := R8.get ho8
          have plen := Paired.len hps
          have hk8 : k < (mvs c8 o).length := by omega
          have hp : (mvs c8 o)[k]? = some (mvs c8 o)[k] := List.getElem?_eq_getElem hk8
          generalize (mvs c8 o)[k] = pr at hp
          obtain ⟨nt, hnt, hmv⟩ := Paired.get hps hp
          simp only [Int.zero_add]
          refine ⟨_, rfl, _, rfl, D, _, _, _, rfl, rfl, .of R8.at_, atI_nat (at_map hx), _, rfl, x, _, _, _, rfl, rfl, .of hxl, atI_nat (at_map hnt), nt, _, rfl, hmv, rfl, _, _, rfl, _, _, rfl, rfl, ?_⟩
          -- if to == state and ..
          have stay : ∃ (c8 : Book) (y7 y8 y9 : Option V), ([some (.ref p), some (.ref a), some (.int S), some (.ref D), some (.int i), some (.int s), some (.int o), some (.int k), some (.int pr.1), some (.int pr.2)] : L2.St) = [some (.ref p), some (.ref a), some (.int S), some (.ref D), some (.int i), some (.int s), some (.int o), y7, y8, y9] ∧ RawL K H8 D as6 c8 ∧ Cp b c8 g6 ∧ c8.length = c6.length ∧ (mvs c8 o).length = (mvs c7 o).length ∧ PoolAt H8 p l ∧ Ext [p, l] H H8 := ⟨c8, _, _, _, rfl, R8, cp8, l8, lm, P8, e8⟩
          refine ⟨_, rfl, _, rfl, rfl, _, rfl, ite2 (fun z => ?_) (fun z => iteF stay)⟩
          have ets : pr.2 = s := by
            have z := V.int.inj (of_decide_eq_true z)
            omega
          refine ⟨_, rfl, p, l, 2, rfl, P8, by decide, by decide, fun r H9 r0 r2 P9 e9 => ?_⟩
          have R9 := R8.ext e9 P8.lsts (offF hD) fun x hx => offF (hf6 x hx)
          have e10 := e8.trans e9
          refine ⟨rfl, _, rfl, ite2 (fun z2 => ?_) (fun z2 => ⟨c8, _, _, _, rfl, R9, cp8, l8, lm, P9, e10⟩)⟩
          refine ⟨_, rfl, _, rfl, D, _, rfl, .inl (.of R9.at_), _, _, rfl, rfl, (by show 2 ≤ sizeLine; decide), fun n2 hn2 => ?_⟩
          have e11 : Ext [] H9 (upd H9 n2 (.tup [.int pr.1, .int ((as6.map V.ref).length - 1)])) := .new hn2
          have hxl9 : H9 x = some (.lst (ps.map V.ref)) := e9.at hxl (offF (hf6 x (List.mem_of_getElem? hx)))
          have hps9 : Paired (MvV K H9) ps (mvs c8 o) := Paired.imp hps fun _ _ z => e9.tup P8.lsts z
          have R11 := R9.ext e11 Lsts.nil (by simp) (by simp)
          have hxl11 := e11.at hxl9 (by simp)
          have hps11 : Paired (MvV K (upd H9 n2 (.tup [.int pr.1, .int ((as6.map V.ref).length - 1)]))) ps (mvs c8 o) := Paired.imp hps9 fun _ _ z => z.ext0 e11
          have enew : ((as6.map V.ref).length : Int) - 1 = (c.length : Nat) := by rw [List.length_map, alen, l6]; omega
          have hmv11 : MvV K (upd H9 n2 (.tup [.int pr.1, .int ((as6.map V.ref).length - 1)])) n2 (pr.1, c.length) := by
            refine .of ?_
            rw [upd_same, enew]
          have xH := hf6 x (List.mem_of_getElem? hx)
          refine ⟨_, rfl, _, rfl, D, _, _, _, rfl, rfl, .of R11.at_, atI_nat (at_map hx), _, rfl, x, _, _, k, rfl, rfl, hxl11, ixNat (by rw [List.length_map, plen]; exact hk8), ?_⟩
          rw [← List.map_set]
          exact ⟨c8.set o ((mvs c8 o).set k (pr.1, c.length)), _, _, _, rfl, R11.wr hx (mvs_lt ho8) hxl11 hps11 hmv11, cp8.lead ho8 hp (by omega) (by rw [hnew, ets]), by rw [List.length_set]; exact l8, by rw [mvs_set ho8, if_pos rfl, List.length_set]; exact lm, ((P9.ext0 e11).put (P0.off xH).1 (P0.off xH).2), (e10.trans e11.weak).put' xH⟩
        · rintro σ H8 ⟨c8, y7, y8, y9, rfl, R8, cp8, l8, lm, P8, e8⟩
          exact ⟨c8, _, _, _, _, rfl, R8, cp8, l8, P8, e8⟩
      · rintro σ H7 ⟨c7, y6, y7, y8, y9, rfl, R7, cp7, l7, P7, e7⟩
        exact ⟨c7, g6, as6, _, _, _, _, _, _, rfl, R7, hf6, cp7, by omega, P7, e7⟩
    · rintro σ H3 ⟨c, g, as, y4, y5, y6, y7, y8, y9, rfl, R3, hf, cp, hcS, P3, e3⟩
      have c1 : 1 ≤ c.length := by rw [← cp.len]; exact (List.getElem?_eq_some_iff.mp cp.zero).1
      refine ⟨_, rfl, .ref D, c, rfl, R3.ls, c1, by omega, fun s => ⟨?_, cp.to s⟩, fun F v H4 mt hbk e4 => ?_⟩
      · by_cases hs : s < c.length
        · have so := (fb.ok (cp.lt s hs)).few
          rw [cp.mv s hs, List.length_map] at so
          omega
        · rw [mvs_out (by omega)]
          exact Nat.zero_le _
      · refine q _ _ v H4 (cp.ok fb mt (by omega)) ?_ (cp.hom mt) hbk (P3.ext0 e4) (e3.trans e4.weak)
        rw [rename_len]
        exact Nat.le_trans (nodup_le mt.nd mt.lt) hcS
end
end Nv
set_option Elab.async false
set_option linter.all false
set_option maxRecDepth 100000
namespace Nv
open PySem PySem.Spec PyProof.Rows L2
section
variable {P : Program} {w : World} {K : PySem.W.Frag} {mg : Str → Option Value} {base : Heap}
/-! ### the law's own walks -/
theorem sc_law_book_next : FnScope ["book", "state", "message", "other", "to"] ["book", "state", "message"] (defScope s_law_book_next) := ⟨rfl, rfl, rfl, by decide +kernel, rfl, by decide +kernel, by decide +kernel⟩
def sp_law_book_next (K : PySem.W.Frag) : Sp := fun vs H Q _ => ∃ (v : V) (b : Book) (s : Nat) (p : Nat × Nat), vs = [v, .int s, .int p.1] ∧ BkV K H v b ∧ FormB b ∧ s < b.length ∧ p ∈ mvs b s ∧ ∀ H', Ext [] H H' → Q (.int p.2) H'
theorem ok_law_book_next (T : Tx K mg) : FnOk P w K mg base CX0 1 T.law_book_next.f T.law_book_next.fd ["book", "state", "message"] (sp_law_book_next K) := by
  refine T.law_book_next.F.ok sc_law_book_next (fun vs H Q E h => ?_) (fun cdv A outer s H vs Q E hr h => ?_)
  · obtain ⟨v, b, s, p, rfl, _⟩ := h; rfl
  · obtain ⟨v, b, st, p0, rfl, ⟨a, ls, rfl, ha, hls⟩, fb, hs, hp0, q⟩ := h
    obtain ⟨u, hu, c, ps, rfl, hc, hps⟩ := Paired.get hls (mvs_lt hs)
    have plen := Paired.len hps
    have five := (fb.ok hs).few
    obtain ⟨rest, hrest⟩ := next_head fb hp0
    refine ⟨_, (pss_one (ps_ret (pe_ix ix_list (pe_op op_cat (pe_lc (own := [("other", 3), ("to", 4)]) rfl sc_law_book_next.nd (pi_tup (pe_ix ix_tup (pv 0) (pv 1) (fun _ _ => rfl))) (blkOk_by (own := [("other", 3), ("to", 4)]) (N := ["book", "state", "message", "other", "to"]) (sc := defScope s_law_book_next) (by decide +kernel)) (fun _ _ _ _ _ => (pg_tupK (n := 2) K rfl (pgs_cons (pg_name (i := 3) sc_law_book_next.nd rfl (.inl rfl)) (pgs_cons (pg_name (i := 4) sc_law_book_next.nd rfl (.inl rfl)) pgs_nil)))) (fun _ _ _ _ _ => pts_one (pt_mid (pt_cmpR op_eq (pv 3) (pv 2) (nomark _)))) (fun _ _ _ _ _ => (pv 4))) (pe_lst (pa_cons pe_non pa_nil))) pe_int (fun _ _ => rfl)))), ?_⟩
    refine ⟨_, rfl, _, rfl, a, _, _, _, rfl, rfl, ha, atI_nat hu, c, rfl, ⟨_, hc.sq⟩, fun D hD => ?_⟩
    refine lc_tup (K := K) (a := c) (xs := ps.map V.ref) (fun i H' => H' D = some (.lst (((((mvs b st).take i).filter fun q => decide (q.1 = p0.1)).map (·.2)).map nV)) ∧ Ext [] H H') ⟨by simp; exact upd_same, .new hD⟩ (fun i H' _ ⟨_, e⟩ => (e.tz Lsts.nil hc).sq) ?_ ?_
    · rintro i v H' hv ⟨hX, e⟩
      obtain ⟨g, hg, rfl⟩ := map_at hv
      obtain ⟨p, hpp, hcp⟩ := Paired.get' hps hg
      have hi5 : i < 5 := by
        have := (List.getElem?_eq_some_iff.mp hpp).1
        omega
      refine ⟨g, _, rfl, hcp.ext0 e, rfl, _, _, rfl, _, _, rfl, rfl, rfl, ?_⟩
      refine ⟨fun x H3 => x = decide (p.1 = p0.1) ∧ H3 = H', ⟨_, rfl, _, rfl, rfl, _, rfl, ?_, rfl⟩, ?_⟩
      · show decide (V.int p.1 = V.int p0.1) = _
        rw [dec_int]
        exact decide_eq_decide.mpr (by omega)
      · rintro x H3 ⟨rfl, rfl⟩
        refine ifB (fun hf => ?_) (fun hf => ?_)
        · refine ⟨_, rfl, _, hX, ?_, ?_, e.put hD⟩
          · rw [List.length_map, List.length_map]
            refine small1000 (Nat.le_trans (List.length_filter_le _ _) ?_)
            rw [List.length_take]
            omega
          · rw [upd_same, filter_take _ hpp, hf]
            simp
        · refine ⟨?_, e⟩
          rw [hX, filter_take _ hpp, hf]
          simp
    · rintro H' ⟨hX, e⟩
      rw [List.length_map, plen, List.take_length, hrest] at hX
      have rl : rest.length < 5 := by
        have h1 := congrArg List.length hrest
        rw [List.length_map, List.length_cons] at h1
        have h2 := List.length_filter_le (fun q : Nat × Nat => decide (q.1 = p0.1)) (mvs b st)
        omega
      refine ⟨(by show 1 ≤ sizeLine; decide), fun z hz => ?_⟩
      have hX2 := (Ext.new (L := []) (o := .lst [.non]) hz).at hX (by simp)
      refine ⟨D, z, _, _, rfl, rfl, hX2, upd_same, ?_, fun t ht => ?_⟩
      · rw [List.length_map, List.length_cons]
        exact Nat.le_of_lt (small1000 (by show rest.length + 1 + 1 ≤ 1000; omega))
      · exact ⟨t, _, _, _, rfl, rfl, .of upd_same, atI_nat (j := 0) rfl, q _ ((e.put2 hz).put2 ht)⟩
end
end Nv
set_option Elab.async false
set_option linter.all false
set_option maxRecDepth 100000
namespace Nv
open PySem PySem.Spec PyProof.Rows L2
section
variable {P : Program} {w : World} {K : PySem.W.Frag} {mg : Str → Option Value} {base : Heap}
/-! ### pairs of states -/
def stK (s : State) : List (Key × V) := s.map fun q => (kN q.1, V.int q.2)
theorem stK_val (m : Nat) : ∀ s : State, valV (stK s) (kN m) = (othF s m).map fun q => V.int q.2
  | [] => rfl
  | p :: s => by
    have ih := stK_val m s
    by_cases e : p.1 = m
    · have h1 : valV (stK (p :: s)) (kN m) = some (V.int p.2) := valV_pos (p := (kN p.1, V.int p.2)) (by rw [e])
      have h2 : othF (p :: s) m = some p := by unfold othF; rw [List.find?_cons, decide_eq_true e]
      rw [h1, h2]
      rfl
    · have h1 : valV (stK (p :: s)) (kN m) = valV (stK s) (kN m) := valV_neg (p := (kN p.1, V.int p.2)) (fun z => e (kN_injD z))
      have h2 : othF (p :: s) m = othF s m := by unfold othF; rw [List.find?_cons, decide_eq_false e]
      rw [h1, h2, ih]
theorem stK_dict {s : State} (h : (s.map (·.1)).Pairwise (· < ·)) : mergeK [] (stK s) = stK s := by
  unfold stK
  rw [mergeK_nd _ [] (by simpa using rise_nd h)]
  rfl
theorem stK_pair {K : PySem.W.Frag} {H : Hp} {ps : List Addr} {s : State} (h : Paired (MvV K H) ps s) : Paired (fun p kv => SqT K H p [kV kv.1, kv.2]) ps (stK s) := by
  unfold stK
  induction h with
  | nil => exact .nil
  | cons r _ ih => exact .cons r ih
def PItV (K : PySem.W.Frag) (H : Hp) (v : V) (e : PIt) : Prop := ∃ a r : Addr, v = .ref a ∧ SqT K H a [.ref r, .int e.2.1, .int e.2.2] ∧ SqT K H r (e.1.map nV)
theorem PItV.ext {K : PySem.W.Frag} {H H' : Hp} {L : List Addr} {v : V} {e : PIt} (h : PItV K H v e) (x : Ext L H H') (l : Lsts L H) : PItV K H' v e := by
  obtain ⟨a, r, rfl, h1, h2⟩ := h
  exact ⟨a, r, rfl, x.tup l h1, x.tup l h2⟩
def knP (a b : Nat) : NestedKey := .tup [.num a, .num b]
theorem knP_inj {a b c d : Nat} (h : knP a b = knP c d) : a = c ∧ b = d := by
  unfold knP at h
  injection h with h
  injection h with h1 h2
  injection h2 with h2 _
  injection h1 with h1
  injection h2 with h2
  have h1 : (a : Int) = c := h1
  have h2 : (b : Int) = d := h2
  exact ⟨by omega, by omega⟩
theorem knP_depth (a b : Nat) : (knP a b).depth ≤ 8 := by
  show max 0 (max 0 0) + 1 ≤ 8
  decide
/-- the entries stand for these pairs -/
def EntP (K : PySem.W.Frag) (H : Hp) (kvs : List Ent) (Q : List PIt) : Prop := Paired (fun (e : Ent) (it : PIt) => e.1 = knP it.2.1 it.2.2 ∧ SqT K H e.2.1 [.int it.2.1, .int it.2.2]) kvs Q
theorem nk_pair {K : PySem.W.Frag} {H : Hp} {p : Addr} {a b : Nat} (h : SqT K H p [.int a, .int b]) : NkV K H (knP a b) (.ref p) := .tup h (.cons (.num _) (.cons (.num _) .nil))
theorem EntP.keys {K : PySem.W.Frag} {H : Hp} {kvs : List Ent} {Q : List PIt} (h : EntP K H kvs Q) : KeysIn K H kvs := by
  unfold EntP at h
  induction h with
  | nil => exact fun e he => nomatch he
  | cons r _ ih =>
    intro e he
    rcases List.mem_cons.mp he with rfl | he
    · rw [r.1]
      exact ⟨nk_pair r.2, knP_depth _ _⟩
    · exact ih e he
theorem EntP.ext {K : PySem.W.Frag} {H H' : Hp} {L : List Addr} {kvs : List Ent} {Q : List PIt} (h : EntP K H kvs Q) (x : Ext L H H') (l : Lsts L H) : EntP K H' kvs Q := Paired.imp h fun _ _ z => ⟨z.1, x.tup l z.2⟩
theorem EntP.val {K : PySem.W.Frag} {H : Hp} {kvs : List Ent} {Q : List PIt} (h : EntP K H kvs Q) (a b : Nat) : (valN kvs (knP a b)).isSome = decide ((a, b) ∈ Q.map (·.2)) := by
  unfold EntP at h
  induction h with
  | nil => rfl
  | @cons e it es its r _ ih =>
    rw [List.map_cons]
    by_cases c : it.2 = (a, b)
    · have c1 : it.2.1 = a := congrArg Prod.fst c
      have c2 : it.2.2 = b := congrArg Prod.snd c
      have hk : e.1 = knP a b := by rw [r.1, c1, c2]
      have hc : valN (e :: es) (knP a b) = some e.2.2 := by simp [valN, List.find?_cons, hk]
      rw [hc, decide_eq_true (by rw [c]; exact List.mem_cons_self ..)]
      rfl
    · have hk : ¬ e.1 = knP a b := fun z => by
        obtain ⟨c1, c2⟩ := knP_inj (r.1.symm.trans z)
        exact c (Prod.ext c1 c2)
      have hc : valN (e :: es) (knP a b) = valN es (knP a b) := by simp [valN, List.find?_cons, hk]
      rw [hc, ih]
      refine decide_eq_decide.mpr ?_
      rw [List.mem_cons]
      exact ⟨.inr, fun z => z.resolve_left fun y => c y.symm⟩
theorem one_dn {w : World} {p : Addr} {H : Hp} {kvs : List Ent} (h : H p = some (dnO w p kvs)) : Lsts [p] H := fun a z => ⟨dnO w p kvs, by rw [List.mem_singleton.mp z]; exact h, fun _ q => (nomatch q), fun _ _ q => (nomatch q)⟩
theorem sc_met_pairs : FnScope ["one", "two", "pairs", "known", "done", "row", "first", "second", "others", "message", "to"] ["one", "two"] (defScope s_met_pairs) := ⟨rfl, rfl, rfl, by decide +kernel, rfl, by decide +kernel, by decide +kernel⟩
def sp_met_pairs (K : PySem.W.Frag) : Sp := fun vs H Q _ => ∃ (v u : V) (one two : Book), vs = [v, u] ∧ BkV K H v one ∧ FormB one ∧ BkV K H u two ∧ FormB two ∧ ∀ (t : Addr) (xs : List V) (H' : Hp), H' t = some (.lst xs) → Paired (PItV K H') xs (metP one two) → Ext [] H H' → Q (.ref t) H'
theorem ok_met_pairs (T : Tx K mg) : FnOk P w K mg base CX0 1 T.met_pairs.f T.met_pairs.fd ["one", "two"] (sp_met_pairs K) := by
  refine T.met_pairs.F.ok sc_met_pairs (fun vs H Q E h => ?_) (fun cdv A outer s H vs Q E hr h => ?_)
  · obtain ⟨v, u, one, two, rfl, _⟩ := h; rfl
  · obtain ⟨v, u, one, two, rfl, h1, fo, h2, ft, q⟩ := h
    obtain ⟨a1, ls1, rfl, ha1, hls1⟩ := id h1
    obtain ⟨a2, ls2, rfl, ha2, hls2⟩ := id h2
    have o8 := fo.eight
    have t8 := ft.eight
    have mul8 : one.length * two.length ≤ 64 := Nat.mul_le_mul o8 t8
    refine ⟨_, (pss_cons (ps_set (i := 2) sc_met_pairs.nd rfl (.inl rfl) (pe_lst (pa_cons (pe_tup (pa_cons (pe_tup pa_nil) (pa_cons pe_int (pa_cons pe_int pa_nil)))) pa_nil)))
      (pss_cons (ps_set (i := 3) sc_met_pairs.nd rfl (.inl rfl) (pe_dispN1 K w (hn_of hr) (pe_tup (pa_cons pe_int (pa_cons pe_int pa_nil))) pe_bl))
      (pss_cons (ps_set (i := 4) sc_met_pairs.nd rfl (.inl rfl) pe_int)
      (pss_cons (ps_while PassesOwn.never (pt_cmpR op_lt (pv 4) (pe_callB call_len_seq (by rfl) T.n_len PySem.boot_len (pa_cons (pv 2) pa_nil)) (nomark _))
        (pss_cons (ps_asg (pe_ix ix_list (pv 2) (pv 4) (fun _ _ => rfl)) (pg_tup rfl (pgs_cons (pg_name (i := 5) sc_met_pairs.nd rfl (.inl rfl)) (pgs_cons (pg_name (i := 6) sc_met_pairs.nd rfl (.inl rfl)) (pgs_cons (pg_name (i := 7) sc_met_pairs.nd rfl (.inl rfl)) pgs_nil)))))
        (pss_cons (ps_aug (i := 4) sc_met_pairs.nd rfl (.inl rfl) pe_int ip_add)
        (pss_cons (ps_set (i := 8) sc_met_pairs.nd rfl (.inl rfl) (pe_callTy (call_dictT rfl) (by rfl) T.n_dict (by decide +kernel) (pa_cons (pe_ix ix_tup (pv 1) (pv 7) (fun _ _ => rfl)) pa_nil)))
        (pss_one (ps_for PassesOwn.never rfl (pi_tup (pe_ix ix_tup (pv 0) (pv 6) (fun _ _ => rfl))) (pg_tup rfl (pgs_cons (pg_name (i := 9) sc_met_pairs.nd rfl (.inl rfl)) (pgs_cons (pg_name (i := 10) sc_met_pairs.nd rfl (.inl rfl)) pgs_nil)))
          (pss_one (ps_if (PW.pt (pw_and (pt_cmp (pc_din (hu_of hr) (pv 9) (pv 8))) (pw_and1 (pt_cmp (pc_dnotinN K w (hn_of hr) (pe_tup (pa_cons (pv 10) (pa_cons (pe_dget (hu_of hr) (pv 8) (pv 9) (fun _ _ => rfl)) pa_nil))) (pv 3))))))
            (pss_cons (ps_dputN K w (hn_of hr) (pv 3) (pe_tup (pa_cons (pv 10) (pa_cons (pe_dget (hu_of hr) (pv 8) (pv 9) (fun _ _ => rfl)) pa_nil))) pe_bl rfl)
            (pss_one (ps_expr (pe_bm PySem.F.plainAttrs_list PySem.F.slot_list_append PySem.F.type_list_append mt_append (pv 2) (pa_cons (pe_tup (pa_cons (pe_op op_catA (pv 5) (pe_tup (pa_cons (pv 9) pa_nil))) (pa_cons (pv 10) (pa_cons (pe_dget (hu_of hr) (pv 8) (pv 9) (fun _ _ => rfl)) pa_nil)))) pa_nil)))))
            pss_nil))))))))
      (pss_one (ps_ret (pv 2))))))), ?_⟩
    -- pairs
    refine ⟨Nat.zero_le _, fun e0 he0 => ⟨(by show 3 ≤ sizeLine; decide), fun t0 ht0 => ⟨(by show 1 ≤ sizeLine; decide), fun pl hpl => ?_⟩⟩⟩
    have x0 : Ext [] H (upd H e0 (.tup [])) := .new he0
    have x1 := x0.trans (Ext.new (L := []) (o := .tup [.ref e0, .int 0, .int 0]) ht0)
    have hplH : H pl = none := x1.free hpl
    have x2 := x1.trans (Ext.new (L := []) (o := .lst [.ref t0]) hpl)
    have it0 : PItV K (upd (upd (upd H e0 (.tup [])) t0 (.tup [.ref e0, .int 0, .int 0])) pl (.lst [.ref t0])) (.ref t0) ([], 0, 0) :=
      ⟨t0, e0, rfl, .of ((Ext.new (L := []) hpl).at upd_same (by simp)), .of (((Ext.new (L := []) ht0).trans (Ext.new hpl)).at upd_same (by simp))⟩
    have hpl2 : upd (upd (upd H e0 (.tup [])) t0 (.tup [.ref e0, .int 0, .int 0])) pl (.lst [.ref t0]) pl = some (.lst [.ref t0]) := upd_same
    clear x0 x1 he0 ht0 hpl
    generalize upd (upd (upd H e0 (.tup [])) t0 (.tup [.ref e0, .int 0, .int 0])) pl (.lst [.ref t0]) = H2 at *
    -- known
    refine fun kd hkd => ⟨(by show 2 ≤ sizeLine; decide), fun k0 hk0 => ?_⟩
    have hkdH : H kd = none := x2.free hkd
    have y1 : Ext [] H2 (upd H2 kd (dnO w kd [])) := .new hkd
    have y2 := y1.trans (Ext.new (L := []) (o := .tup [.int 0, .int 0]) hk0)
    have kdk : kd ≠ k0 := fun z => by rw [← z, upd_same] at hk0; cases hk0
    have hkd2 : upd (upd H2 kd (dnO w kd [])) k0 (.tup [.int 0, .int 0]) kd = some (dnO w kd []) := by rw [upd_ne kdk, upd_same]
    have hk02 : SqT K (upd (upd H2 kd (dnO w kd [])) k0 (.tup [.int 0, .int 0])) k0 [.int (0 : Nat), .int (0 : Nat)] := .of upd_same
    have plkd : pl ≠ kd := ne_of_none hpl2 hkd
    refine ⟨hkd2, knP 0 0, k0, rfl, nk_pair hk02, knP_depth 0 0, ?_⟩
    have x3 : Ext [] H (upd (upd (upd H2 kd (dnO w kd [])) k0 (.tup [.int 0, .int 0])) kd (dnO w kd [(knP 0 0, k0, .bl true)])) := (x2.trans y2).put hkdH
    have hpl3 : upd (upd (upd H2 kd (dnO w kd [])) k0 (.tup [.int 0, .int 0])) kd (dnO w kd [(knP 0 0, k0, .bl true)]) pl = some (.lst [.ref t0]) := by rw [upd_ne plkd]; exact y2.at hpl2 (by simp)
    have it3 := (it0.ext y2 Lsts.nil).ext (L := [kd]) (.wr (p := kd) (o := dnO w kd [(knP 0 0, k0, .bl true)]) (by simp)) (one_dn hkd2)
    have en3 : EntP K (upd (upd (upd H2 kd (dnO w kd [])) k0 (.tup [.int 0, .int 0])) kd (dnO w kd [(knP 0 0, k0, .bl true)])) [(knP 0 0, k0, .bl true)] [([], 0, 0)] := .cons ⟨rfl, Ext.tup (L := [kd]) (.wr (by simp)) (one_dn hkd2) hk02⟩ .nil
    have hkd3 : upd (upd (upd H2 kd (dnO w kd [])) k0 (.tup [.int 0, .int 0])) kd (dnO w kd [(knP 0 0, k0, .bl true)]) kd = some (dnO w kd [(knP 0 0, k0, .bl true)]) := upd_same
    clear x2 y1 y2 it0 hk02 hkd2 hpl2 hkd hk0
    generalize upd (upd (upd H2 kd (dnO w kd [])) k0 (.tup [.int 0, .int 0])) kd (dnO w kd [(knP 0 0, k0, .bl true)]) = H3 at *
    -- the loop
    refine ⟨fun m σ H' => ∃ (Q : List PIt) (xs : List V) (kvs : List Ent) (d : Nat) (y5 y6 y7 y8 y9 y10 : Option V), σ = [some (.ref a1), some (.ref a2), some (.ref pl), some (.ref kd), some (.int d), y5, y6, y7, y8, y9, y10] ∧ m = one.length * two.length - d ∧ PIE one two Q d ∧ H' pl = some (.lst xs) ∧ Paired (PItV K H') xs Q ∧ H' kd = some (dnO w kd kvs) ∧ EntP K H' kvs Q ∧ Ext [] H H',
      ⟨_, [([], 0, 0)], [.ref t0], _, 0, _, _, _, _, _, _, rfl, rfl, .first fo.one ft.one, hpl3, .cons it3 .nil, hkd3, en3, x3⟩, ?_⟩
    rintro m σ H' ⟨Q, xs, kvs, d, y5, y6, y7, y8, y9, y10, rfl, rfl, pi, hP, hxs, hK, hen, e⟩
    have most := pi.most
    have xl := Paired.len hxs
    refine ⟨_, rfl, _, rfl, pl, _, rfl, .inl (.of hP), _, _, rfl, rfl, _, rfl, ite2 (fun z => ?_) (fun z => ?_)⟩
    · have z := of_decide_eq_true z
      have hd : d < Q.length := by omega
      have hs : Q[d]? = some Q[d] := List.getElem?_eq_getElem hd
      generalize Q[d] = it at hs
      obtain ⟨hl1, hl2⟩ := pi.lt it (List.mem_of_getElem? hs)
      obtain ⟨x, hx, t, r, rfl, ht, hrw⟩ := Paired.get hxs hs
      obtain ⟨u1, hu1, c1, ps1, rfl, hc1, hps1⟩ := Paired.get hls1 (mvs_lt hl1)
      obtain ⟨u2, hu2, c2, ps2, rfl, hc2, hps2⟩ := Paired.get hls2 (mvs_lt hl2)
      have plen := Paired.len hps1
      refine ⟨fun σ H' => ∃ (Q : List PIt) (xs : List V) (kvs : List Ent) (y5 y6 y7 y8 y9 y10 : Option V), σ = [some (.ref a1), some (.ref a2), some (.ref pl), some (.ref kd), some (.int (d + 1 : Nat)), y5, y6, y7, y8, y9, y10] ∧ PIE one two Q (d + 1) ∧ H' pl = some (.lst xs) ∧ Paired (PItV K H') xs Q ∧ H' kd = some (dnO w kd kvs) ∧ EntP K H' kvs Q ∧ Ext [] H H', ?_, ?_⟩
      · rintro σ' H' ⟨Q', xs', kvs', y5, y6, y7, y8, y9, y10, rfl, pi', hP', hxs', hK', hen', e'⟩
        have := pi'.most
        exact ⟨one.length * two.length - (d + 1), by omega, Q', xs', kvs', d + 1, _, _, _, _, _, _, rfl, rfl, pi', hP', hxs', hK', hen', e'⟩
      refine ⟨_, rfl, _, rfl, pl, _, _, _, rfl, rfl, .of hP, atI_nat hx, t, _, rfl, ht, rfl, _, _, rfl, _, _, rfl, _, _, rfl, rfl, ?_⟩
      refine ⟨_, rfl, _, _, rfl, rfl, ?_⟩
      -- others
      refine ⟨_, rfl, _, rfl, a2, _, _, _, rfl, rfl, e.tup Lsts.nil ha2, atI_nat hu2, c2, ps2, _, rfl, e.tz Lsts.nil hc2, stK_pair (Paired.imp hps2 fun _ _ z => z.ext0 e), fun od hod => ?_⟩
      rw [stK_dict (ft.rise it.2.2)]
      have e1 : Ext [] H' (upd H' od (.dK (stK (mvs two it.2.2)))) := .new hod
      have hod1 : upd H' od (.dK (stK (mvs two it.2.2))) od = some (.dK (stK (mvs two it.2.2))) := upd_same
      have hP1 := e1.at hP (by simp)
      have hK1 := e1.at hK (by simp)
      have hxs1 := Paired.imp hxs fun _ _ z => z.ext e1 Lsts.nil
      have hen1 := hen.ext e1 Lsts.nil
      have hrw1 := e1.tup Lsts.nil hrw
      have ee := e.trans e1
      have odpl : od ≠ pl := fun z => by rw [z, hP] at hod; cases hod
      have odkd : od ≠ kd := fun z => by rw [z, hK] at hod; cases hod
      clear hod e1 hP hK hxs hen hrw ht hx xl most z e
      generalize upd H' od (.dK (stK (mvs two it.2.2))) = H4 at *
      refine ⟨_, rfl, _, rfl, a1, _, _, _, rfl, rfl, ee.tup Lsts.nil ha1, atI_nat hu1, c1, rfl, ⟨_, (ee.tz Lsts.nil hc1).sq⟩, ?_⟩
      refine for_tup (K := K) (a := c1) (xs := ps1.map V.ref) (fun k σ H' => ∃ (Q : List PIt) (xs : List V) (kvs : List Ent) (y9 y10 : Option V), σ = [some (.ref a1), some (.ref a2), some (.ref pl), some (.ref kd), some (.int ((d : Int) + 1)), some (.ref r), some (.int it.2.1), some (.int it.2.2), some (.ref od), y9, y10] ∧ PWE one two Q d it k ∧ H' pl = some (.lst xs) ∧ Paired (PItV K H') xs Q ∧ H' kd = some (dnO w kd kvs) ∧ EntP K H' kvs Q ∧ H' od = some (.dK (stK (mvs two it.2.2))) ∧ SqT K H' r (it.1.map nV) ∧ Ext [] H H')
        ⟨Q, xs, kvs, _, _, rfl, pi.begin hs, hP1, hxs1, hK1, hen1, hod1, hrw1, ee⟩ (fun k σ H' _ ⟨_, _, _, _, _, _, _, _, _, _, _, _, _, e⟩ => (e.tz Lsts.nil hc1).sq) ?_ ?_
      · rintro k v σ H5 hv ⟨Q, xs, kvs, y9, y10, rfl, pw, hP, hxs, hK, hen, hod, hrw, e⟩
        obtain ⟨g, hg, rfl⟩ := map_at hv
        obtain ⟨p, hp, hcp⟩ := Paired.get' hps1 hg
        have hcp := hcp.ext0 e
        have most := pw.most
        have klen := Paired.len hen
        have xl := Paired.len hxs
        refine ⟨g, _, rfl, hcp, rfl, _, _, rfl, _, _, rfl, rfl, ?_⟩
        -- if message in others and ..
        refine ⟨_, rfl, _, rfl, od, _, rfl, DGet.k (k := kN p.1) hod, _, rfl, ?_⟩
        rw [stK_val, Option.isSome_map]
        cases ho : othF (mvs two it.2.2) p.1 with
        | none =>
          exact iteF (iteF ⟨Q, xs, kvs, _, _, rfl, pw.skip hp fun q hq => (by rw [ho] at hq; cases hq), hP, hxs, hK, hen, hod, hrw, e⟩)
        | some q2 =>
          have hval : valV (stK (mvs two it.2.2)) (kN p.1) = some (V.int q2.2) := by rw [stK_val, ho]; rfl
          refine iteT ?_
          refine ⟨_, rfl, _, rfl, _, rfl, od, V.int q2.2, rfl, by rw [← hval]; exact DGet.k (k := kN p.1) hod, ?_⟩
          refine ⟨(by show 2 ≤ sizeLine; decide), fun t1 ht1 => ?_⟩
          have f1 : Ext [] H5 (upd H5 t1 (.tup [.int p.2, .int q2.2])) := .new ht1
          have hK1 := f1.at hK (by simp)
          have hen1 := hen.ext f1 Lsts.nil
          have nk1 : NkV K (upd H5 t1 (.tup [.int p.2, .int q2.2])) (knP p.2 q2.2) (.ref t1) := nk_pair (.of upd_same)
          refine ⟨_, rfl, kd, _, rfl, ⟨kvs, knP p.2 q2.2, t1, hK1, hen1.keys, rfl, nk1, knP_depth _ _, rfl⟩, _, rfl, ?_⟩
          rw [hen1.val]
          by_cases hin : (p.2, q2.2) ∈ Q.map (·.2)
          · rw [decide_eq_true hin]
            exact iteF ⟨Q, xs, kvs, _, _, rfl, pw.skip hp fun q hq => (by rw [ho] at hq; cases hq; exact hin), f1.at hP (by simp), Paired.imp hxs fun _ _ z => z.ext f1 Lsts.nil, hK1, hen1, f1.at hod (by simp), f1.tup Lsts.nil hrw, e.trans f1⟩
          · rw [decide_eq_false hin]
            refine iteT ?_
            have hod1 := f1.at hod (by simp)
            have hnone : valN kvs (knP p.2 q2.2) = none := by
              have := hen.val p.2 q2.2
              rw [decide_eq_false hin] at this
              cases h : valN kvs (knP p.2 q2.2) with
              | none => rfl
              | some v => rw [h] at this; cases this
            refine ⟨_, rfl, _, rfl, _, rfl, _, rfl, od, V.int q2.2, rfl, by rw [← hval]; exact DGet.k (k := kN p.1) hod1, (by show 2 ≤ sizeLine; decide), fun t2 ht2 => ?_⟩
            have f2 : Ext [] (upd H5 t1 (.tup [.int p.2, .int q2.2])) (upd (upd H5 t1 (.tup [.int p.2, .int q2.2])) t2 (.tup [.int p.2, .int q2.2])) := .new ht2
            have f12 := f1.trans f2
            have hK2 := f2.at hK1 (by simp)
            have hen2 := hen1.ext f2 Lsts.nil
            have hP2 := f12.at hP (by simp)
            have hod2 := f2.at hod1 (by simp)
            have hrw2 := f12.tup Lsts.nil hrw
            have hxs2 := Paired.imp hxs fun _ _ z => z.ext f12 Lsts.nil
            have ht22 : SqT K (upd (upd H5 t1 (.tup [.int p.2, .int q2.2])) t2 (.tup [.int p.2, .int q2.2])) t2 [.int p.2, .int q2.2] := .of upd_same
            have e2 := e.trans f12
            clear f12 f2 f1 ht2 ht1 hod1 hK1 hen1 nk1 hK hen hP hod hrw hxs e
            generalize upd (upd H5 t1 (.tup [.int p.2, .int q2.2])) t2 (.tup [.int p.2, .int q2.2]) = H6 at *
            refine ⟨kd, _, rfl, ⟨kvs, knP p.2 q2.2, t2, hK2, hen2.keys, rfl, nk_pair ht22, knP_depth _ _, hnone, small1000 (by omega), rfl⟩, ?_⟩
            have ew : Ext [kd] H6 (upd H6 kd (dnO w kd (kvs ++ [(knP p.2 q2.2, t2, .bl true)]))) := .wr (by simp)
            have lk := one_dn hK2
            have hP3 : upd H6 kd (dnO w kd (kvs ++ [(knP p.2 q2.2, t2, .bl true)])) pl = some (.lst xs) := by rw [upd_ne plkd]; exact hP2
            have hod3 : upd H6 kd (dnO w kd (kvs ++ [(knP p.2 q2.2, t2, .bl true)])) od = some (.dK (stK (mvs two it.2.2))) := by rw [upd_ne odkd]; exact hod2
            have hrw3 := ew.tup lk hrw2
            have hxs3 := Paired.imp hxs2 fun _ _ z => z.ext ew lk
            have hen3 : EntP K (upd H6 kd (dnO w kd (kvs ++ [(knP p.2 q2.2, t2, .bl true)]))) (kvs ++ [(knP p.2 q2.2, t2, .bl true)]) (Q ++ [(it.1 ++ [p.1], p.2, q2.2)]) := Paired.snoc ⟨rfl, ew.tup lk ht22⟩ (hen2.ext ew lk)
            have hK3 : upd H6 kd (dnO w kd (kvs ++ [(knP p.2 q2.2, t2, .bl true)])) kd = some (dnO w kd (kvs ++ [(knP p.2 q2.2, t2, .bl true)])) := upd_same
            have e3 : Ext [] H (upd H6 kd (dnO w kd (kvs ++ [(knP p.2 q2.2, t2, .bl true)]))) := e2.put hkdH
            clear ew lk hxs2 hrw2 hod2 hP2 hen2 hK2 ht22 e2 hnone
            generalize kvs ++ [(knP p.2 q2.2, t2, .bl true)] = kvs' at *
            generalize upd H6 kd (dnO w kd kvs') = H7 at *
            have rlen := pw.row it (List.mem_of_getElem? pw.here)
            -- the list
            have fin : ∀ (nr t4 : Addr) (H8 : Hp), Ext [] H7 H8 → SqT K H8 nr ((it.1 ++ [p.1]).map nV) → H8 t4 = none →
                ∃ (Q' : List PIt) (xs' : List V) (kvs' : List Ent) (y9 y10 : Option V), ([some (.ref a1), some (.ref a2), some (.ref pl), some (.ref kd), some (.int ((d : Int) + 1)), some (.ref r), some (.int it.2.1), some (.int it.2.2), some (.ref od), some (.int p.1), some (.int p.2)] : L2.St) = [some (.ref a1), some (.ref a2), some (.ref pl), some (.ref kd), some (.int ((d : Int) + 1)), some (.ref r), some (.int it.2.1), some (.int it.2.2), some (.ref od), y9, y10] ∧ PWE one two Q' d it (k + 1) ∧
                  upd (upd H8 t4 (.tup [.ref nr, .int p.2, .int q2.2])) pl (.lst (xs ++ [.ref t4])) pl = some (.lst xs') ∧ Paired (PItV K (upd (upd H8 t4 (.tup [.ref nr, .int p.2, .int q2.2])) pl (.lst (xs ++ [.ref t4])))) xs' Q' ∧ upd (upd H8 t4 (.tup [.ref nr, .int p.2, .int q2.2])) pl (.lst (xs ++ [.ref t4])) kd = some (dnO w kd kvs') ∧ EntP K (upd (upd H8 t4 (.tup [.ref nr, .int p.2, .int q2.2])) pl (.lst (xs ++ [.ref t4]))) kvs' Q' ∧
                  upd (upd H8 t4 (.tup [.ref nr, .int p.2, .int q2.2])) pl (.lst (xs ++ [.ref t4])) od = some (.dK (stK (mvs two it.2.2))) ∧ SqT K (upd (upd H8 t4 (.tup [.ref nr, .int p.2, .int q2.2])) pl (.lst (xs ++ [.ref t4]))) r (it.1.map nV) ∧ Ext [] H (upd (upd H8 t4 (.tup [.ref nr, .int p.2, .int q2.2])) pl (.lst (xs ++ [.ref t4]))) := by
              intro nr t4 H8 e8 hnr ht4
              have e9 : Ext [] H8 (upd H8 t4 (.tup [.ref nr, .int p.2, .int q2.2])) := .new ht4
              have hP9 := (e8.trans e9).at hP3 (by simp)
              have l9 := one_lst hP9
              have ew : Ext [pl] (upd H8 t4 (.tup [.ref nr, .int p.2, .int q2.2])) (upd (upd H8 t4 (.tup [.ref nr, .int p.2, .int q2.2])) pl (.lst (xs ++ [.ref t4]))) := .wr (by simp)
              have e89 := e8.trans e9
              refine ⟨Q ++ [(it.1 ++ [p.1], p.2, q2.2)], xs ++ [.ref t4], kvs', _, _, rfl, pw.push fo ft hp ho hin, upd_same, ?_, by rw [upd_ne plkd.symm]; exact e89.at hK3 (by simp), (hen3.ext e89 Lsts.nil).ext ew l9, by rw [upd_ne odpl]; exact e89.at hod3 (by simp), ew.tup l9 (e89.tup Lsts.nil hrw3), (e3.trans e89).put hplH⟩
              exact Paired.snoc ⟨t4, nr, rfl, ew.tup l9 (.of upd_same), ew.tup l9 (e9.tup Lsts.nil hnr)⟩ (Paired.imp hxs3 fun _ _ z => (z.ext e89 Lsts.nil).ext ew l9)
            refine ⟨_, rfl, .inl ⟨rfl, _, .of hP3⟩, _, rfl, _, rfl, (by show 1 ≤ sizeLine; decide), fun g2 hg2 => ?_⟩
            have e5 : Ext [] H7 (upd H7 g2 (.tup [.int p.1])) := .new hg2
            refine ⟨r, g2, _, _, rfl, rfl, e5.tup Lsts.nil hrw3, .of upd_same, ?_, fun h0 => ?_, fun _ h0 => (by cases h0), fun _ _ g3 hg3 => ?_⟩
            · rw [List.length_map]
              show it.1.length + 1 ≤ sizeLine
              exact Nat.le_of_lt (small1000 (by omega))
            · have hnr : SqT K (upd H7 g2 (.tup [.int p.1])) g2 ((it.1 ++ [p.1]).map nV) := by
                have h0 : it.1.map nV = [] := h0
                rw [List.map_append, h0]
                exact .of upd_same
              refine ⟨_, rfl, _, rfl, _, rfl, od, V.int q2.2, rfl, by rw [← hval]; exact DGet.k (k := kN p.1) (e5.at hod3 (by simp)), (by show 3 ≤ sizeLine; decide), fun t4 ht4 => ?_⟩
              exact ⟨pl, _, _, rfl, rfl, (e5.trans (Ext.new ht4)).at hP3 (by simp), small1000 (by omega), fin g2 t4 _ e5 hnr ht4⟩
            · have e6 := e5.put2 (o := .tup (it.1.map nV ++ [.int p.1])) hg3
              have hnr : SqT K (upd (upd H7 g2 (.tup [.int p.1])) g3 (.tup (it.1.map nV ++ [.int p.1]))) g3 ((it.1 ++ [p.1]).map nV) := by
                rw [List.map_append]
                exact .of upd_same
              refine ⟨_, rfl, _, rfl, _, rfl, od, V.int q2.2, rfl, by rw [← hval]; exact DGet.k (k := kN p.1) (e6.at hod3 (by simp)), (by show 3 ≤ sizeLine; decide), fun t4 ht4 => ?_⟩
              exact ⟨pl, _, _, rfl, rfl, (e6.trans (Ext.new ht4)).at hP3 (by simp), small1000 (by omega), fin g3 t4 _ e6 hnr ht4⟩
      · rintro σ H5 ⟨Q, xs, kvs, y9, y10, rfl, pw, hP, hxs, hK, hen, hod, hrw, e⟩
        exact ⟨Q, xs, kvs, _, _, _, _, _, _, by rw [Int.natCast_add]; rfl, pw.done (by rw [List.length_map, plen]; exact Nat.le_refl _), hP, hxs, hK, hen, e⟩
    · have z : ¬ ((d : Int) < (xs.length : Int)) := fun y => z (decide_eq_true y)
      have := pi.le
      have hm := (pi.met (by omega)).1
      rw [hm] at hxs
      exact ⟨_, rfl, q pl xs H' hP hxs e⟩
end
end Nv
set_option Elab.async false
set_option linter.all false
set_option maxRecDepth 100000
namespace Nv
open PySem PySem.Spec PyProof.Rows L2
section
variable {P : Program} {w : World} {K : PySem.W.Frag} {mg : Str → Option Value} {base : Heap}
/-! ### books as data: one just if they are one -/
theorem eqvAll_map {α : Type} [DecidableEq α] {f : α → PyData} (h : ∀ x y, PyData.eqv (f x) (f y) = decide (x = y)) : ∀ l m : List α, PyData.eqvAll (l.map f) (m.map f) = decide (l = m)
  | [], [] => by simp [PyData.eqvAll]
  | [], y :: m => by simp [PyData.eqvAll]
  | x :: l, [] => by simp [PyData.eqvAll]
  | x :: l, y :: m => by
    simp only [List.map_cons, PyData.eqvAll, h, eqvAll_map h l m, List.cons.injEq]
    by_cases e : x = y <;> simp [e]
theorem eqv_mvD (p q : Nat × Nat) : PyData.eqv (mvD p) (mvD q) = decide (p = q) := by
  obtain ⟨a, b⟩ := p
  obtain ⟨c, d⟩ := q
  unfold mvD
  simp only [PyData.eqv, PyData.eqvAll, Bool.and_true]
  by_cases h1 : a = c
  · by_cases h2 : b = d
    · subst h1 h2; simp
    · have : ¬ (b : Int) = d := fun z => h2 (by omega)
      simp [h1, h2]
      exact this
  · have : ¬ (a : Int) = c := fun z => h1 (by omega)
    simp [h1]
    exact fun z => absurd z this
theorem eqv_stD (s t : State) : PyData.eqv (stD s) (stD t) = decide (s = t) := by
  unfold stD
  rw [PyData.eqv]
  exact eqvAll_map eqv_mvD s t
theorem eqv_book (b c : Book) : PyData.eqv (bookD b) (bookD c) = decide (b = c) := by
  unfold bookD
  rw [PyData.eqv]
  exact eqvAll_map eqv_stD b c
theorem sts_lay : ∀ b : Book, PyData.canLayAll0 (b.map stD) = true
  | [] => rfl
  | s :: r => by simp [PyData.canLayAll0, PyData.canLay0, sts_lay r, stD, mvs_lay]
theorem sts_depth : ∀ b : Book, PyData.depthAll (b.map stD) ≤ 2
  | [] => by simp [PyData.depthAll]
  | s :: r => by
    have h1 := sts_depth r
    have h2 := mvs_depth s
    simp [PyData.depthAll, PyData.depth, stD]
    omega
theorem shaped_book (b : Book) : SeqAt.shaped (bookD b) = true := by
  have := sts_depth b
  simp [SeqAt.shaped, PyData.canLay0, sts_lay, PyData.depth, bookD]
  omega
theorem minL_ok : ∀ {l : List Nat}, l ≠ [] → minL l ∈ l ∧ ∀ y ∈ l, minL l ≤ y := by
  have key : ∀ (r : List Nat) (x : Nat), r.foldl min x ∈ x :: r ∧ ∀ y ∈ x :: r, r.foldl min x ≤ y := by
    intro r
    induction r with
    | nil => exact fun x => ⟨List.mem_singleton.mpr rfl, fun y hy => by rw [List.mem_singleton.mp hy]; exact Nat.le_refl _⟩
    | cons z r ih =>
      intro x
      obtain ⟨h1, h2⟩ := ih (min x z)
      refine ⟨?_, fun y hy => ?_⟩
      · rcases List.mem_cons.mp h1 with e | e
        · show r.foldl min (min x z) ∈ _
          rw [e]
          by_cases c : x ≤ z
          · rw [Nat.min_eq_left c]; exact List.mem_cons_self ..
          · rw [Nat.min_eq_right (by omega)]; exact List.mem_cons_of_mem _ (List.mem_cons_self ..)
        · exact List.mem_cons_of_mem _ (List.mem_cons_of_mem _ e)
      · have hm := h2 (min x z) (List.mem_cons_self ..)
        show r.foldl min (min x z) ≤ y
        rcases List.mem_cons.mp hy with rfl | hy
        · exact Nat.le_trans hm (Nat.min_le_left _ _)
        · rcases List.mem_cons.mp hy with rfl | hy
          · exact Nat.le_trans hm (Nat.min_le_right _ _)
          · exact h2 y (List.mem_cons_of_mem _ hy)
  intro l h
  cases l with
  | nil => exact absurd rfl h
  | cons x r => exact key r x
theorem minL_eq {l : List Nat} {m : Nat} (h1 : m ∈ l) (h2 : ∀ y ∈ l, m ≤ y) : m = minL l := by
  obtain ⟨a, b⟩ := minL_ok (l := l) (fun e => by rw [e] at h1; cases h1)
  exact Nat.le_antisymm (h2 _ a) (b _ h1)
/-! ### least_book, alike, part_row, within -/

theorem okM_least_book (T : Tx K mg) : FnOk P w K mg base CX0 6 T.least_book.f T.least_book.fd ["book"] (fun vs H Q _ => ∃ (v : V) (b : Book), vs = [v] ∧ BkV K H v b ∧ OkB b ∧ ∀ (c : Book) (f : Nat → Nat) (v' : V) (H' : Hp), LstB b c f → BkV K H' v' c → Ext [] H H' → Q v' H') := by
  refine T.least_book.F.ok sc_least_book (fun vs H Q E h => ?_) (fun cdv A outer s H vs Q E hr h => ?_)
  · obtain ⟨v, b, rfl, _⟩ := h; rfl
  · obtain ⟨v, b, rfl, hb, ok, q⟩ := h
    refine ⟨_, (pss_cons (ps_expr (pe_call (ok_made_book T) (hr.mono (by decide)) (by rfl) T.made_book.g T.made_book.F.kp T.made_book.b .nil pass0 (pa_cons (pv 0) pa_nil)))
      (pss_one (ps_ret (pe_call (ok_least_states T) (hr.mono (by decide)) (by rfl) T.least_states.g T.least_states.F.kp T.least_states.b .nil pass0 (pa_cons (pv 0) pa_nil))))), ?_⟩
    refine ⟨_, rfl, v, b, rfl, hb, ok, fun H1 e1 => ?_⟩
    exact ⟨_, rfl, v, b, rfl, hb.ext0 e1, ok.toFormB, fun ks m v' H' lb h' e' => q _ _ v' H' (lb.lst ok) h' (e1.trans e')⟩
theorem sc_alike : FnScope ["one", "two"] ["one", "two"] (defScope s_alike) := ⟨rfl, rfl, rfl, by decide +kernel, rfl, by decide +kernel, by decide +kernel⟩
def sp_alike (K : PySem.W.Frag) : Sp := fun vs H Q _ => ∃ (v u : V) (one two : Book), vs = [v, u] ∧ BkV K H v one ∧ OkB one ∧ BkV K H u two ∧ OkB two ∧ ∀ (H' : Hp), Ext [] H H' → Q (.bl (decide (partP one two = none))) H'
theorem ok_alike (T : Tx K mg) : FnOk P w K mg base CX0 6 T.alike.f T.alike.fd ["one", "two"] (sp_alike K) := by
  refine T.alike.F.ok sc_alike (fun vs H Q E h => ?_) (fun cdv A outer s H vs Q E hr h => ?_)
  · obtain ⟨v, u, one, two, rfl, _⟩ := h; rfl
  · obtain ⟨v, u, one, two, rfl, h1, o1, h2, o2, q⟩ := h
    refine ⟨_, (pss_cons (ps_expr (pe_call (ok_made_book T) (hr.mono (by decide)) (by rfl) T.made_book.g T.made_book.F.kp T.made_book.b .nil pass0 (pa_cons (pv 0) pa_nil)))
      (pss_cons (ps_expr (pe_call (ok_made_book T) (hr.mono (by decide)) (by rfl) T.made_book.g T.made_book.F.kp T.made_book.b .nil pass0 (pa_cons (pv 1) pa_nil)))
      (pss_one (ps_ret (pe_cmpR (op_eqD (hr.units)) (pe_call (ok_least_states T) (hr.mono (by decide)) (by rfl) T.least_states.g T.least_states.F.kp T.least_states.b .nil pass0 (pa_cons (pv 0) pa_nil)) (pe_call (ok_least_states T) (hr.mono (by decide)) (by rfl) T.least_states.g T.least_states.F.kp T.least_states.b .nil pass0 (pa_cons (pv 1) pa_nil)) (nomark _)))))), ?_⟩
    refine ⟨_, rfl, v, one, rfl, h1, o1, fun H1 e1 => ?_⟩
    refine ⟨_, rfl, u, two, rfl, h2.ext0 e1, o2, fun H2 e2 => ?_⟩
    have e12 := e1.trans e2
    refine ⟨_, rfl, v, one, rfl, h1.ext0 e12, o1.toFormB, fun ks m v' H3 lb h' e3 => ?_⟩
    refine ⟨_, rfl, u, two, rfl, h2.ext0 (e12.trans e3), o2.toFormB, fun ks2 m2 v2 H4 lb2 h2' e4 => ?_⟩
    refine ⟨_, _, (h'.ext0 e4).wk.dp, h2'.wk.dp, shaped_book _, shaped_book _, ?_⟩
    rw [eqv_book, decide_eq_decide.mpr (lst_part o1 o2 (lb.lst o1) (lb2.lst o2))]
    exact q H4 ((e12.trans e3).trans e4)
/-- a row, or None -/
def OrV (K : PySem.W.Frag) (H : Hp) (v : V) (o : Option (List Nat)) : Prop := (o = none ∧ v = .non) ∨ ∃ a r, o = some r ∧ v = .ref a ∧ SqT K H a (r.map nV)
theorem sc_part_row : FnScope ["one", "two", "row", "first", "second", "messages", "others", "single", "message", "to", "m"] ["one", "two"] (defScope s_part_row) := ⟨rfl, rfl, rfl, by decide +kernel, rfl, by decide +kernel, by decide +kernel⟩
def sp_part_row (K : PySem.W.Frag) : Sp := fun vs H Q _ => ∃ (v u : V) (one two : Book), vs = [v, u] ∧ BkV K H v one ∧ OkB one ∧ BkV K H u two ∧ OkB two ∧ ∀ (x : V) (H' : Hp), OrV K H' x (partP one two) → Ext [] H H' → Q x H'
theorem findSome_take {α β : Type} {f : α → Option β} {l : List α} {i : Nat} {x : α} (hx : l[i]? = some x) (h : (l.take i).findSome? f = none) : (∀ y, f x = some y → l.findSome? f = some y) ∧ (f x = none → (l.take (i + 1)).findSome? f = none) := by
  have e : (l.take (i + 1)).findSome? f = f x := by
    rw [List.take_add_one, hx, List.findSome?_append, h]
    show (none : Option β).or (List.findSome? f [x]) = f x
    rw [Option.none_or, List.findSome?_cons]
    cases f x <;> rfl
  refine ⟨fun y hy => ?_, fun hn => by rw [e, hn]⟩
  rw [← List.take_append_drop (i + 1) l, List.findSome?_append, e, hy]
  rfl
theorem ok_part_row (T : Tx K mg) : FnOk P w K mg base CX0 6 T.part_row.f T.part_row.fd ["one", "two"] (sp_part_row K) := by
  refine T.part_row.F.ok sc_part_row (fun vs H Q E h => ?_) (fun cdv A outer s H vs Q E hr h => ?_)
  · obtain ⟨v, u, one, two, rfl, _⟩ := h; rfl
  · obtain ⟨v, u, one, two, rfl, h1, o1, h2, o2, q⟩ := h
    have fo := o1.toFormB
    have ft := o2.toFormB
    obtain ⟨a1, ls1, rfl, ha1, hls1⟩ := id h1
    obtain ⟨a2, ls2, rfl, ha2, hls2⟩ := id h2
    refine ⟨_, (pss_cons (ps_expr (pe_call (ok_made_book T) (hr.mono (by decide)) (by rfl) T.made_book.g T.made_book.F.kp T.made_book.b .nil pass0 (pa_cons (pv 0) pa_nil)))
      (pss_cons (ps_expr (pe_call (ok_made_book T) (hr.mono (by decide)) (by rfl) T.made_book.g T.made_book.F.kp T.made_book.b .nil pass0 (pa_cons (pv 1) pa_nil)))
      (pss_cons (ps_for PassesOwn.never rfl (pi_list (pe_call (ok_met_pairs T) (hr.mono (by decide)) (by rfl) T.met_pairs.g T.met_pairs.F.kp T.met_pairs.b .nil pass0 (pa_cons (pv 0) (pa_cons (pv 1) pa_nil)))) (pg_tup rfl (pgs_cons (pg_name (i := 2) sc_part_row.nd rfl (.inl rfl)) (pgs_cons (pg_name (i := 3) sc_part_row.nd rfl (.inl rfl)) (pgs_cons (pg_name (i := 4) sc_part_row.nd rfl (.inl rfl)) pgs_nil))))
        (pss_cons (ps_set (i := 5) sc_part_row.nd rfl (.inr rfl) (pe_lc (own := [("message", 8), ("to", 9)]) rfl sc_part_row.nd (pi_tup (pe_ix ix_tup (pv 0) (pv 3) (fun _ _ => rfl))) (blkOk_by (own := [("message", 8), ("to", 9)]) (N := ["one", "two", "row", "first", "second", "messages", "others", "single", "message", "to", "m"]) (sc := defScope s_part_row) (by decide +kernel)) (fun _ _ _ _ _ => (pg_tupK (n := 2) K rfl (pgs_cons (pg_name (i := 8) sc_part_row.nd rfl (.inl rfl)) (pgs_cons (pg_name (i := 9) sc_part_row.nd rfl (.inl rfl)) pgs_nil)))) (fun _ _ _ _ _ => pts_nil) (fun _ _ _ _ _ => (pv 8))))
        (pss_cons (ps_set (i := 6) sc_part_row.nd rfl (.inr rfl) (pe_lc (own := [("message", 8), ("to", 9)]) rfl sc_part_row.nd (pi_tup (pe_ix ix_tup (pv 1) (pv 4) (fun _ _ => rfl))) (blkOk_by (own := [("message", 8), ("to", 9)]) (N := ["one", "two", "row", "first", "second", "messages", "others", "single", "message", "to", "m"]) (sc := defScope s_part_row) (by decide +kernel)) (fun _ _ _ _ _ => (pg_tupK (n := 2) K rfl (pgs_cons (pg_name (i := 8) sc_part_row.nd rfl (.inl rfl)) (pgs_cons (pg_name (i := 9) sc_part_row.nd rfl (.inl rfl)) pgs_nil)))) (fun _ _ _ _ _ => pts_nil) (fun _ _ _ _ _ => (pv 8))))
        (pss_cons (ps_set (i := 7) sc_part_row.nd rfl (.inl rfl) (pe_op op_cat (pe_lc (own := [("m", 10)]) rfl sc_part_row.nd (pi_list (pv 5)) (blkOk_by (own := [("m", 10)]) (N := ["one", "two", "row", "first", "second", "messages", "others", "single", "message", "to", "m"]) (sc := defScope s_part_row) (by decide +kernel)) (fun _ _ _ _ _ => (pg_name (i := 10) sc_part_row.nd rfl (.inl rfl))) (fun _ _ _ _ _ => pts_one (pt_mid (pt_cmpR (op_notIn_seqK K) (pv 10) (pv 6) (by rfl)))) (fun _ _ _ _ _ => (pv 10))) (pe_lc (own := [("m", 10)]) rfl sc_part_row.nd (pi_list (pv 6)) (blkOk_by (own := [("m", 10)]) (N := ["one", "two", "row", "first", "second", "messages", "others", "single", "message", "to", "m"]) (sc := defScope s_part_row) (by decide +kernel)) (fun _ _ _ _ _ => (pg_name (i := 10) sc_part_row.nd rfl (.inl rfl))) (fun _ _ _ _ _ => pts_one (pt_mid (pt_cmpR (op_notIn_seqK K) (pv 10) (pv 5) (by rfl)))) (fun _ _ _ _ _ => (pv 10)))))
        (pss_one (ps_if (pt_truth (pv 7) (by intro _; rfl))
          (pss_one (ps_ret (pe_op op_catA (pv 2) (pe_tup (pa_cons (pe_callB (cr_min rfl) (by rfl) T.n_min (by decide +kernel) (pa_cons (pv 7) pa_nil)) pa_nil)))))
          pss_nil))))))
      (pss_one (ps_ret pe_non))))), ?_⟩
    refine ⟨_, rfl, _, one, rfl, h1, o1, fun H1 e1 => ?_⟩
    refine ⟨_, rfl, _, two, rfl, h2.ext0 e1, o2, fun H2 e2 => ?_⟩
    have e12 := e1.trans e2
    refine ⟨_, rfl, _, rfl, _, _, one, two, rfl, h1.ext0 e12, fo, h2.ext0 e12, ft, fun t xs H3 ht hxs e3 => ?_⟩
    have e13 := e12.trans e3
    have all := metP_all fo ft
    refine ⟨t, rfl, ⟨_, .of ht⟩, ?_⟩
    refine for_list (K := K) (a := t) (xs := xs) (fun i σ H' => ∃ (y2 y3 y4 y5 y6 y7 : Option V), σ = [some (.ref a1), some (.ref a2), y2, y3, y4, y5, y6, y7, none, none, none] ∧ ((metP one two).take i).findSome? (partE one two) = none ∧ Ext [] H3 H') ⟨_, _, _, _, _, _, rfl, rfl, .refl⟩ (fun i σ H' _ ⟨_, _, _, _, _, _, _, _, e⟩ => .of (e.at ht (by simp))) ?_ ?_
    · rintro i x σ H' hx ⟨y2, y3, y4, y5, y6, y7, rfl, hn, e⟩
      obtain ⟨it, hit, hv⟩ := Paired.get' hxs hx
      obtain ⟨tt, r, rfl, htt, hrw⟩ := hv.ext e Lsts.nil
      obtain ⟨hl1, hl2⟩ := all.lt it (List.mem_of_getElem? hit)
      obtain ⟨u1, hu1, c1, ps1, rfl, hc1, hps1⟩ := Paired.get hls1 (mvs_lt hl1)
      obtain ⟨u2, hu2, c2, ps2, rfl, hc2, hps2⟩ := Paired.get hls2 (mvs_lt hl2)
      have pl1 := Paired.len hps1
      have pl2 := Paired.len hps2
      have f1 := (fo.ok hl1).few
      have f2 := (ft.ok hl2).few
      have eH := e13.trans e
      refine ⟨tt, _, rfl, htt, rfl, _, _, rfl, _, _, rfl, _, _, rfl, rfl, ?_⟩
      -- messages
      refine ⟨_, rfl, _, rfl, a1, _, _, _, rfl, rfl, eH.tup Lsts.nil ha1, atI_nat hu1, c1, rfl, ⟨_, (eH.tz Lsts.nil hc1).sq⟩, fun D1 hD1 => ?_⟩
      refine lc_tup (K := K) (a := c1) (xs := ps1.map V.ref) (fun k H3 => H3 D1 = some (.lst ((((mvs one it.2.1).take k).map (·.1)).map nV)) ∧ Ext [] H' H3) ⟨by simp; exact upd_same, .new hD1⟩ (fun k H3 _ ⟨_, e⟩ => ((eH.trans e).tz Lsts.nil hc1).sq) ?_ ?_
      · rintro k y H4 hy ⟨hX, e4⟩
        obtain ⟨g, hg, rfl⟩ := map_at hy
        obtain ⟨p, hp, hcp⟩ := Paired.get' hps1 hg
        refine ⟨g, _, rfl, hcp.ext0 (eH.trans e4), rfl, _, _, rfl, _, _, rfl, rfl, rfl, yes ?_⟩
        refine ⟨_, rfl, _, hX, ?_, ?_, e4.put hD1⟩
        · rw [List.length_map, List.length_map, List.length_take]
          exact small1000 (by omega)
        · rw [upd_same, List.take_add_one, hp, List.map_append, List.map_append]
          rfl
      rintro H4 ⟨hM, e4⟩
      rw [List.length_map, pl1, List.take_length] at hM
      have e14 := eH.trans e4
      -- others
      refine ⟨_, rfl, _, rfl, a2, _, _, _, rfl, rfl, e14.tup Lsts.nil ha2, atI_nat hu2, c2, rfl, ⟨_, (e14.tz Lsts.nil hc2).sq⟩, fun D2 hD2 => ?_⟩
      refine lc_tup (K := K) (a := c2) (xs := ps2.map V.ref) (fun k H3 => H3 D2 = some (.lst ((((mvs two it.2.2).take k).map (·.1)).map nV)) ∧ Ext [] H4 H3) ⟨by simp; exact upd_same, .new hD2⟩ (fun k H3 _ ⟨_, e⟩ => ((e14.trans e).tz Lsts.nil hc2).sq) ?_ ?_
      · rintro k y H5 hy ⟨hX, e5⟩
        obtain ⟨g, hg, rfl⟩ := map_at hy
        obtain ⟨p, hp, hcp⟩ := Paired.get' hps2 hg
        refine ⟨g, _, rfl, hcp.ext0 (e14.trans e5), rfl, _, _, rfl, _, _, rfl, rfl, rfl, yes ?_⟩
        refine ⟨_, rfl, _, hX, ?_, ?_, e5.put hD2⟩
        · rw [List.length_map, List.length_map, List.length_take]
          exact small1000 (by omega)
        · rw [upd_same, List.take_add_one, hp, List.map_append, List.map_append]
          rfl
      rintro H5 ⟨hO, e5⟩
      rw [List.length_map, pl2, List.take_length] at hO
      have hM5 := e5.at hM (by simp)
      -- single
      have ml : ((mvs one it.2.1).map (·.1)).length < 1000 := by rw [List.length_map]; omega
      have ol : ((mvs two it.2.2).map (·.1)).length < 1000 := by rw [List.length_map]; omega
      refine ⟨_, rfl, D1, rfl, ⟨_, .of hM5⟩, fun D3 hD3 => ?_⟩
      refine filt_list (K := K) (a := D1) (l := (mvs one it.2.1).map (·.1)) (fun m => !decide (m ∈ (mvs two it.2.2).map (·.1))) hD3 (.of hM5) ml (fun v => rfl) (fun v => rfl) (fun k H6 hk e6 => ?_) (fun H6 hS1 e6 => ?_)
      · refine ⟨_, rfl, _, rfl, D2, _, rfl, .inl (.of (e6.at hO (by simp))), rfl, flat_nV _, _, rfl, ?_, .refl⟩
        show (!inV (nV k) (((mvs two it.2.2).map (·.1)).map nV)) = _
        rw [inV_nV]
      have hO6 := e6.at hO (by simp)
      have hM6 := e6.at hM5 (by simp)
      refine ⟨_, rfl, D2, rfl, ⟨_, .of hO6⟩, fun D4 hD4 => ?_⟩
      refine filt_list (K := K) (a := D2) (l := (mvs two it.2.2).map (·.1)) (fun m => !decide (m ∈ (mvs one it.2.1).map (·.1))) hD4 (.of hO6) ol (fun v => rfl) (fun v => rfl) (fun k H7 hk e7 => ?_) (fun H7 hS2 e7 => ?_)
      · refine ⟨_, rfl, _, rfl, D1, _, rfl, .inl (.of (e7.at hM6 (by simp))), rfl, flat_nV _, _, rfl, ?_, .refl⟩
        show (!inV (nV k) (((mvs one it.2.1).map (·.1)).map nV)) = _
        rw [inV_nV]
      have hS17 := e7.at hS1 (by simp)
      have sl1 := List.length_filter_le (fun m => !decide (m ∈ (mvs two it.2.2).map (·.1))) ((mvs one it.2.1).map (·.1))
      have sl2 := List.length_filter_le (fun m => !decide (m ∈ (mvs one it.2.1).map (·.1))) ((mvs two it.2.2).map (·.1))
      rw [List.length_map] at sl1 sl2
      refine ⟨D3, D4, _, _, rfl, rfl, hS17, hS2, ?_, fun S hS => ?_⟩
      · rw [List.length_map, List.length_map]
        exact Nat.le_of_lt (small1000 (by omega))
      have es : ((((mvs one it.2.1).map (·.1)).filter fun m => !decide (m ∈ (mvs two it.2.2).map (·.1))).map nV ++ (((mvs two it.2.2).map (·.1)).filter fun m => !decide (m ∈ (mvs one it.2.1).map (·.1))).map nV) = (singleM (mvs one it.2.1) (mvs two it.2.2)).map nV := by
        unfold singleM
        rw [List.map_append]
      rw [es]
      have e8 : Ext [] H7 (upd H7 S (.lst ((singleM (mvs one it.2.1) (mvs two it.2.2)).map nV))) := .new hS
      have hS8 : upd H7 S (.lst ((singleM (mvs one it.2.1) (mvs two it.2.2)).map nV)) S = some (.lst ((singleM (mvs one it.2.1) (mvs two it.2.2)).map nV)) := upd_same
      have e48 := (((e4.trans e5).trans e6).trans e7).trans e8
      clear hS e8
      generalize upd H7 S (.lst ((singleM (mvs one it.2.1) (mvs two it.2.2)).map nV)) = H8 at *
      obtain ⟨ft1, ft2⟩ := findSome_take hit hn
      -- if single
      refine ⟨_, rfl, _, .inl ⟨_, .of hS8, rfl⟩, ?_⟩
      have em : ((singleM (mvs one it.2.1) (mvs two it.2.2)).map nV).isEmpty = (singleM (mvs one it.2.1) (mvs two it.2.2)).isEmpty := by cases singleM (mvs one it.2.1) (mvs two it.2.2) <;> rfl
      show (if (!((singleM (mvs one it.2.1) (mvs two it.2.2)).map nV).isEmpty) = true then _ else _)
      rw [em]
      by_cases hem : singleM (mvs one it.2.1) (mvs two it.2.2) = []
      · have : (!(singleM (mvs one it.2.1) (mvs two it.2.2)).isEmpty) = false := by rw [hem]; rfl
        rw [this]
        exact iteF ⟨_, _, _, _, _, _, rfl, ft2 (by unfold partE; rw [if_pos hem]), e.trans e48⟩
      · have : (!(singleM (mvs one it.2.1) (mvs two it.2.2)).isEmpty) = true := by
          cases h : singleM (mvs one it.2.1) (mvs two it.2.2) with
          | nil => exact absurd h hem
          | cons _ _ => rfl
        rw [this]
        refine iteT ?_
        have hrw8 := e48.tup Lsts.nil hrw
        have hsome : partP one two = some (it.1 ++ [minL (singleM (mvs one it.2.1) (mvs two it.2.2))]) := ft1 _ (by unfold partE; rw [if_neg hem])
        generalize hsg : singleM (mvs one it.2.1) (mvs two it.2.2) = sg at *
        have hS9 := hS8
        rw [map_nV_iN] at hS9
        refine ⟨_, rfl, _, rfl, S, iN sg, rfl, .of hS9, ?_, fun m hm1 hm2 => ⟨(by show 1 ≤ sizeLine; decide), fun g2 hg2 => ?_⟩⟩
        · have := List.length_pos_iff.mpr hem
          unfold iN
          rw [List.length_map]
          exact this
        obtain ⟨n, hn1, rfl⟩ := List.mem_map.mp hm1
        have en : n = minL sg := minL_eq hn1 fun y hy => by
          have := hm2 (y : Int) (List.mem_map.mpr ⟨y, hy, rfl⟩)
          show n ≤ y
          have this : (n : Int) ≤ y := this
          omega
        have e9 : Ext [] H8 (upd H8 g2 (.tup [.int (n : Int)])) := .new hg2
        have e89 := eH.trans (e48.trans e9)
        have rlen := all.row it (List.mem_of_getElem? hit)
        have most := all.most
        have mul8 : one.length * two.length ≤ 64 := Nat.mul_le_mul fo.eight ft.eight
        refine ⟨r, g2, _, _, rfl, rfl, e9.tup Lsts.nil hrw8, .of upd_same, ?_, fun h0 => ?_, fun _ h0 => (by cases h0), fun _ _ g3 hg3 => ?_⟩
        · rw [List.length_map]
          show it.1.length + 1 ≤ sizeLine
          exact Nat.le_of_lt (small1000 (by omega))
        · have h0 : it.1.map nV = [] := h0
          refine q _ _ (.inr ⟨g2, _, hsome, rfl, ?_⟩) e89
          rw [List.map_append, h0, ← en]
          exact .of upd_same
        · refine q _ _ (.inr ⟨g3, _, hsome, rfl, ?_⟩) (e89.put2 hg3)
          rw [List.map_append, ← en]
          exact .of upd_same
    · rintro σ H' ⟨y2, y3, y4, y5, y6, y7, rfl, hn, e⟩
      rw [Paired.len hxs, List.take_length] at hn
      exact q _ H' (.inl ⟨hn, rfl⟩) (e13.trans e)
theorem sc_within : FnScope ["one", "two", "_", "first", "second", "others", "message", "to"] ["one", "two"] (defScope s_within) := ⟨rfl, rfl, rfl, by decide +kernel, rfl, by decide +kernel, by decide +kernel⟩
def sp_within (K : PySem.W.Frag) : Sp := fun vs H Q _ => ∃ (v u : V) (one two : Book), vs = [v, u] ∧ BkV K H v one ∧ OkB one ∧ BkV K H u two ∧ OkB two ∧ ∀ (H' : Hp), Ext [] H H' → Q (.bl (withinP one two)) H'
theorem ok_within (T : Tx K mg) : FnOk P w K mg base CX0 6 T.within.f T.within.fd ["one", "two"] (sp_within K) := by
  refine T.within.F.ok sc_within (fun vs H Q E h => ?_) (fun cdv A outer s H vs Q E hr h => ?_)
  · obtain ⟨v, u, one, two, rfl, _⟩ := h; rfl
  · obtain ⟨v, u, one, two, rfl, h1, o1, h2, o2, q⟩ := h
    have fo := o1.toFormB
    have ft := o2.toFormB
    obtain ⟨a1, ls1, rfl, ha1, hls1⟩ := id h1
    obtain ⟨a2, ls2, rfl, ha2, hls2⟩ := id h2
    refine ⟨_, (pss_cons (ps_expr (pe_call (ok_made_book T) (hr.mono (by decide)) (by rfl) T.made_book.g T.made_book.F.kp T.made_book.b .nil pass0 (pa_cons (pv 0) pa_nil)))
      (pss_cons (ps_expr (pe_call (ok_made_book T) (hr.mono (by decide)) (by rfl) T.made_book.g T.made_book.F.kp T.made_book.b .nil pass0 (pa_cons (pv 1) pa_nil)))
      (pss_cons (ps_for PassesOwn.never rfl (pi_list (pe_call (ok_met_pairs T) (hr.mono (by decide)) (by rfl) T.met_pairs.g T.met_pairs.F.kp T.met_pairs.b .nil pass0 (pa_cons (pv 0) (pa_cons (pv 1) pa_nil)))) (pg_tup rfl (pgs_cons (pg_name (i := 2) sc_within.nd rfl (.inl rfl)) (pgs_cons (pg_name (i := 3) sc_within.nd rfl (.inl rfl)) (pgs_cons (pg_name (i := 4) sc_within.nd rfl (.inl rfl)) pgs_nil))))
        (pss_cons (ps_setLc (i := 5) (own := [("message", 6), ("to", 7)]) rfl sc_within.nd rfl rfl (sw_true rfl rfl rfl (by decide +kernel)) (pi_tup (pe_ix ix_tup (pv 1) (pv 4) (fun _ _ => rfl))) (blkOk_by (own := [("message", 6), ("to", 7)]) (N := ["one", "two", "_", "first", "second", "others", "message", "to"]) (sc := defScope s_within) (by decide +kernel)) (fun _ _ _ _ _ => (pg_tupK (n := 2) K rfl (pgs_cons (pg_name (i := 6) sc_within.nd rfl (.inl rfl)) (pgs_cons (pg_name (i := 7) sc_within.nd rfl (.inl rfl)) pgs_nil)))) (fun _ _ _ _ _ => pts_nil) (fun _ _ _ _ _ => (pv 6)))
        (pss_one (ps_for PassesOwn.never rfl (pi_tup (pe_ix ix_tup (pv 0) (pv 3) (fun _ _ => rfl))) (pg_tup rfl (pgs_cons (pg_name (i := 6) sc_within.nd rfl (.inl rfl)) (pgs_cons (pg_name (i := 7) sc_within.nd rfl (.inl rfl)) pgs_nil)))
          (pss_one (ps_if (pt_cmpR op_notIn_seq (pv 6) (pv 5) (by rfl))
            (pss_one (ps_ret pe_bl))
            pss_nil))))))
      (pss_one (ps_ret pe_bl))))), ?_⟩
    refine ⟨_, rfl, _, one, rfl, h1, o1, fun H1 e1 => ?_⟩
    refine ⟨_, rfl, _, two, rfl, h2.ext0 e1, o2, fun H2 e2 => ?_⟩
    have e12 := e1.trans e2
    refine ⟨_, rfl, _, rfl, _, _, one, two, rfl, h1.ext0 e12, fo, h2.ext0 e12, ft, fun t xs H3 ht hxs e3 => ?_⟩
    have e13 := e12.trans e3
    have all := metP_all fo ft
    refine ⟨t, rfl, ⟨_, .of ht⟩, ?_⟩
    refine for_list (K := K) (a := t) (xs := xs) (fun i σ H' => ∃ (y2 y3 y4 y5 y6 y7 : Option V), σ = [some (.ref a1), some (.ref a2), y2, y3, y4, y5, y6, y7] ∧ (∀ e ∈ (metP one two).take i, withinE one two e = true) ∧ Ext [] H3 H') ⟨_, _, _, _, _, _, rfl, fun e he => (by rw [List.take_zero] at he; cases he), .refl⟩ (fun i σ H' _ ⟨_, _, _, _, _, _, _, _, e⟩ => .of (e.at ht (by simp))) ?_ ?_
    · rintro i x σ H' hx ⟨y2, y3, y4, y5, y6, y7, rfl, hn, e⟩
      obtain ⟨it, hit, hv⟩ := Paired.get' hxs hx
      obtain ⟨tt, r, rfl, htt, hrw⟩ := hv.ext e Lsts.nil
      obtain ⟨hl1, hl2⟩ := all.lt it (List.mem_of_getElem? hit)
      obtain ⟨u1, hu1, c1, ps1, rfl, hc1, hps1⟩ := Paired.get hls1 (mvs_lt hl1)
      obtain ⟨u2, hu2, c2, ps2, rfl, hc2, hps2⟩ := Paired.get hls2 (mvs_lt hl2)
      have pl1 := Paired.len hps1
      have pl2 := Paired.len hps2
      have f2 := (ft.ok hl2).few
      have eH := e13.trans e
      refine ⟨tt, _, rfl, htt, rfl, _, _, rfl, _, _, rfl, _, _, rfl, rfl, ?_⟩
      -- others
      refine ⟨_, rfl, _, rfl, a2, _, _, _, rfl, rfl, eH.tup Lsts.nil ha2, atI_nat hu2, c2, rfl, ⟨_, (eH.tz Lsts.nil hc2).sq⟩, fun D2 hD2 => ?_⟩
      refine lc_tup (K := K) (a := c2) (xs := ps2.map V.ref) (fun k H3 => H3 D2 = some (.lst ((((mvs two it.2.2).take k).map (·.1)).map nV)) ∧ Ext [] H' H3) ⟨by simp; exact upd_same, .new hD2⟩ (fun k H3 _ ⟨_, e⟩ => ((eH.trans e).tz Lsts.nil hc2).sq) ?_ ?_
      · rintro k y H5 hy ⟨hX, e5⟩
        obtain ⟨g, hg, rfl⟩ := map_at hy
        obtain ⟨p, hp, hcp⟩ := Paired.get' hps2 hg
        refine ⟨g, _, rfl, hcp.ext0 (eH.trans e5), rfl, _, _, rfl, _, _, rfl, rfl, rfl, yes ?_⟩
        refine ⟨_, rfl, _, hX, ?_, ?_, e5.put hD2⟩
        · rw [List.length_map, List.length_map, List.length_take]
          exact small1000 (by omega)
        · rw [upd_same, List.take_add_one, hp, List.map_append, List.map_append]
          rfl
      rintro H5 ⟨hO, e5⟩
      rw [List.length_map, pl2, List.take_length] at hO
      have e15 := eH.trans e5
      refine ⟨_, rfl, _, rfl, a1, _, _, _, rfl, rfl, e15.tup Lsts.nil ha1, atI_nat hu1, c1, rfl, ⟨_, (e15.tz Lsts.nil hc1).sq⟩, ?_⟩
      refine for_tup (K := K) (a := c1) (xs := ps1.map V.ref) (fun k σ H6 => ∃ (y6 y7 : Option V), σ = [some (.ref a1), some (.ref a2), some (.ref r), some (.int it.2.1), some (.int it.2.2), some (.ref D2), y6, y7] ∧ (∀ p ∈ (mvs one it.2.1).take k, (othF (mvs two it.2.2) p.1).isSome = true) ∧ Ext [] H5 H6) ⟨_, _, rfl, fun p hp => (by rw [List.take_zero] at hp; cases hp), .refl⟩ (fun k σ H6 _ ⟨_, _, _, _, e⟩ => ((e15.trans e).tz Lsts.nil hc1).sq) ?_ ?_
      · rintro k y σ H6 hy ⟨y6, y7, rfl, hk, e6⟩
        obtain ⟨g, hg, rfl⟩ := map_at hy
        obtain ⟨p, hp, hcp⟩ := Paired.get' hps1 hg
        refine ⟨g, _, rfl, hcp.ext0 (e15.trans e6), rfl, _, _, rfl, _, _, rfl, rfl, ?_⟩
        refine ⟨_, rfl, _, rfl, D2, _, rfl, .inl (.of (e6.at hO (by simp))), rfl, flat_nV _, _, rfl, ?_⟩
        rw [show inV (V.int (p.1 : Int)) (((mvs two it.2.2).map (·.1)).map nV) = decide (p.1 ∈ (mvs two it.2.2).map (·.1)) from inV_nV p.1 _, ← othF_in]
        cases ho : (othF (mvs two it.2.2) p.1).isSome with
        | false =>
          refine iteT ?_
          have : withinP one two = false := by
            unfold withinP
            rw [List.all_eq_false]
            refine ⟨it, List.mem_of_getElem? hit, ?_⟩
            unfold withinE
            rw [Bool.not_eq_true, List.all_eq_false]
            exact ⟨p, List.mem_of_getElem? hp, by rw [ho]; simp⟩
          have q' := q H6 (e15.trans e6)
          rw [this] at q'
          exact q'
        | true =>
          refine iteF ⟨_, _, rfl, fun x hx => ?_, e6⟩
          rw [List.take_add_one, hp] at hx
          rcases List.mem_append.mp hx with hx | hx
          · exact hk x hx
          · have := List.mem_singleton.mp (show x ∈ [p] from hx)
            rw [this]
            exact ho
      · rintro σ H6 ⟨y6, y7, rfl, hk, e6⟩
        rw [List.length_map, pl1, List.take_length] at hk
        refine ⟨_, _, _, _, _, _, rfl, fun x hx => ?_, (e.trans e5).trans e6⟩
        rw [List.take_add_one, hit] at hx
        rcases List.mem_append.mp hx with hx | hx
        · exact hn x hx
        · have := List.mem_singleton.mp (show x ∈ [it] from hx)
          rw [this]
          exact List.all_eq_true.mpr hk
    · rintro σ H' ⟨y2, y3, y4, y5, y6, y7, rfl, hn, e⟩
      rw [Paired.len hxs, List.take_length] at hn
      have : withinP one two = true := List.all_eq_true.mpr hn
      have q' := q H' (e13.trans e)
      rw [this] at q'
      exact q'
end
end Nv
set_option Elab.async false
set_option linter.all false
set_option maxRecDepth 100000
namespace Nv
open PySem PySem.Spec PyProof.Rows L2 RZ
/-! ### zip of two tuples in comprehensions; data in lists of data -/
theorem units65 {A : Around} {k : Nat} (hr : Room k A) : A.units + 65 < cLine := by have := hr.un; omega
section
variable {X : Cx}
theorem op_inDK (K : PySem.W.Frag) (hu : X.A.units + 65 < cLine) (h : X.K = K := by rfl) : OpR X (compareOp .In) (rInD K) := by subst h; exact op_inD hu
theorem op_notInDK (K : PySem.W.Frag) (hu : X.A.units + 65 < cLine) (h : X.K = K := by rfl) : OpR X (compareOp .NotIn) (rNotInD K) := by subst h; exact op_notInD hu
theorem pi_zipAK (K : PySem.W.Frag) {e e2 : Expr} {ta : TA} {p pos tpos : Pos} {elts : List Expr} {kk : Nat} (hg : Gl X "zip") (hm : X.mg "zip" = none) (ha : PA X [e, e2] ta)
    (hs : starEach [e, e2] X.env = (false, eval e X.env) :: starEach [e2] X.env := by rfl) (hpl : (backTo pos (starEach [e2] X.env)).any (·.1) = false := by rfl) (h : X.K = K := by rfl) :
    PI X (.Tuple elts kk tpos) (.Call (.Name "zip" p) [e, e2] [] pos) (iZipA K ta) := by subst h; exact pi_zipA hg hm ha hs hpl
end
theorem walk_zipT {K : PySem.W.Frag} {a b : Addr} {xs ys : List V} {n : Nat} (hn : n = min xs.length ys.length) : Walk (ItzT K a b) n (fun H => SqT K H a xs ∧ SqT K H b ys) (YPair (fun i => xs[i]?) (fun i => ys[i]?)) := by
  subst hn
  refine ⟨fun i _ hi q => ?_, fun _ q => ⟨xs, ys, q.1, q.2, by omega⟩, fun i H v H' _ q y => ?_⟩
  · have h1 : i < xs.length := by omega
    have h2 : i < ys.length := by omega
    exact ⟨xs, ys, xs[i], ys[i], q.1, q.2, by simp [h1], by simp [h2]⟩
  · obtain ⟨T, x, z, h1, h2, h3, h4, h5⟩ := y
    exact ⟨T, x, z, h1, h2, h3, h4 xs q.1, h5 ys q.2⟩
end Nv
set_option Elab.async false
set_option linter.all false
set_option maxRecDepth 100000
namespace Nv
open PySem PySem.Spec PyProof.Rows L2
section
variable {P : Program} {w : World} {K : PySem.W.Frag} {mg : Str → Option Value} {base : Heap}
/-! ### the law's own search for a row -/
theorem FormB.msg_in {b : Book} {s : Nat} {p : Nat × Nat} (hp : p ∈ mvs b s) : p.1 ∈ (mvs b s).map (·.1) := List.mem_map.mpr ⟨p, hp, rfl⟩
theorem othF_of {x : State} (hx : (x.map (·.1)).Pairwise (· < ·)) {m : Nat} (hm : m ∈ x.map (·.1)) : ∃ q, othF x m = some q ∧ q ∈ x ∧ q.1 = m := by
  obtain ⟨q, hq, rfl⟩ := List.mem_map.mp hm
  obtain ⟨i, hi⟩ := List.mem_iff_getElem?.mp hq
  exact ⟨q, othF_at hx hi, hq, rfl⟩
theorem OrV.ext {K : PySem.W.Frag} {H H' : Hp} {L : List Addr} {v : V} {o : Option (List Nat)} (h : OrV K H v o) (x : Ext L H H') (l : Lsts L H) : OrV K H' v o := by
  rcases h with h | ⟨a, r, h1, h2, h3⟩
  · exact .inl h
  · exact .inr ⟨a, r, h1, h2, x.tup l h3⟩
theorem shaped_mvD (p : Nat × Nat) : SeqAt.shaped (mvD p) = true := by simp [SeqAt.shaped, mvD, PyData.canLay0, PyData.canLayAll0, PyData.depth, PyData.depthAll]
theorem any_mvD {s : State} {p : Nat × Nat} : ((s.map mvD).any fun z => PyData.eqv z (mvD p)) = decide (p ∈ s) := by
  rw [List.any_map]
  rw [Bool.eq_iff_iff, List.any_eq_true, decide_eq_true_eq]
  constructor
  · rintro ⟨x, hx, e⟩
    have e : PyData.eqv (mvD x) (mvD p) = true := e
    rw [eqv_mvD, decide_eq_true_eq] at e
    rw [← e]; exact hx
  · intro h
    exact ⟨p, h, by show PyData.eqv (mvD p) (mvD p) = true; rw [eqv_mvD]; exact decide_eq_true rfl⟩
/-- what holds behind d items of Q, and U's first j messages of the next one -/
def LeastAt (one two : Book) (Q : List PIt) (d : Nat) (it : PIt) (U : List Nat) (j : Nat) : Option (List Nat) := ((Q.take d).findSome? (partE one two)).or (((U.take j).find? (oneOf (mvs one it.2.1) (mvs two it.2.2))).map fun m => it.1 ++ [m])
def MoreAt (one two : Book) (Q : List PIt) (d : Nat) (it : PIt) (U : List Nat) (j : Nat) : Bool := (Q.take d).any (fun e => !withinE one two e) || (U.take j).any (moreOf (mvs one it.2.1) (mvs two it.2.2))
section
variable {one two : Book} {Q : List PIt} {d : Nat} {it : PIt} {U : List Nat} {j m : Nat}
theorem more_zero : MoreAt one two Q d it U 0 = (Q.take d).any fun e => !withinE one two e := by unfold MoreAt; rw [List.take_zero, List.any_nil, Bool.or_false]
theorem least_zero : LeastAt one two Q d it U 0 = (Q.take d).findSome? (partE one two) := by
  unfold LeastAt
  rw [List.take_zero]
  show Option.or _ none = _
  rw [Option.or_none]
theorem more_all (hit : Q[d]? = some it) (uo : UOf (mvs one it.2.1) (mvs two it.2.2) U) : MoreAt one two Q d it U U.length = (Q.take (d + 1)).any fun e => !withinE one two e := by
  unfold MoreAt
  rw [List.take_length, List.take_add_one, hit, List.any_append]
  congr 1
  show _ = List.any [it] _
  rw [List.any_cons, List.any_nil, Bool.or_false, uo.within, Bool.not_not]
theorem least_all (hit : Q[d]? = some it) (uo : UOf (mvs one it.2.1) (mvs two it.2.2) U) : LeastAt one two Q d it U U.length = (Q.take (d + 1)).findSome? (partE one two) := by
  unfold LeastAt
  rw [List.take_length, List.take_add_one, hit, List.findSome?_append, ← uo.part fun h1 h2 => minL_eq h1 h2]
  congr 1
  show _ = List.findSome? (partE one two) [it]
  rw [List.findSome?_cons]
  cases partE one two it <;> rfl
theorem more_step (hm : U[j]? = some m) : MoreAt one two Q d it U (j + 1) = (MoreAt one two Q d it U j || moreOf (mvs one it.2.1) (mvs two it.2.2) m) := by
  unfold MoreAt
  rw [any_step hm, Bool.or_assoc]
theorem least_same (hm : U[j]? = some m) (h : oneOf (mvs one it.2.1) (mvs two it.2.2) m = false) : LeastAt one two Q d it U (j + 1) = LeastAt one two Q d it U j := by
  unfold LeastAt
  rw [find_step hm, h]
  congr 2
  rw [if_neg (by simp), Option.or_none]
theorem least_new (hm : U[j]? = some m) (h : oneOf (mvs one it.2.1) (mvs two it.2.2) m = true) : LeastAt one two Q d it U (j + 1) = (LeastAt one two Q d it U j).or (some (it.1 ++ [m])) := by
  unfold LeastAt
  rw [find_step hm, h, if_pos rfl]
  cases (Q.take d).findSome? (partE one two) with
  | some r => rfl
  | none => cases (U.take j).find? (oneOf (mvs one it.2.1) (mvs two it.2.2)) <;> rfl
theorem grow_take (hd : d ≤ Q.length) (x : PIt) : (Q ++ [x]).take d = Q.take d := List.take_append_of_le_length hd
theorem more_grow (hd : d ≤ Q.length) (x : PIt) : MoreAt one two (Q ++ [x]) d it U j = MoreAt one two Q d it U j := by unfold MoreAt; rw [grow_take hd]
theorem least_grow (hd : d ≤ Q.length) (x : PIt) : LeastAt one two (Q ++ [x]) d it U j = LeastAt one two Q d it U j := by unfold LeastAt; rw [grow_take hd]
end
theorem or_in {K : PySem.W.Frag} {Q : VK} {σ : L2.St} {H : Hp} {i j : Nat} {c d new : Bool} (h : new = (c || d)) (hin : ∀ Q' : VK, Q' (.bl d) H → tOp (rIn K false) (tVar i) (tVar j) σ H Q') (q : Q (.bl new) H) : if c = true then Q (.bl true) H else tOp (rIn K false) (tVar i) (tVar j) σ H Q := by
  subst h
  cases c with
  | true => exact iteT q
  | false => exact iteF (hin Q q)
theorem sc_law_apart : FnScope ["one", "two", "level", "seen_pairs", "least", "is_more", "turn", "ahead", "row", "here", "there", "left", "right", "message", "pair", "to"] ["one", "two"] (defScope s_law_apart) := ⟨rfl, rfl, rfl, by decide +kernel, rfl, by decide +kernel, by decide +kernel⟩
def sp_law_apart (K : PySem.W.Frag) : Sp := fun vs H Q _ => ∃ (v u : V) (one two : Book), vs = [v, u] ∧ BkV K H v one ∧ FormB one ∧ BkV K H u two ∧ FormB two ∧
  ∀ (t : Addr) (x : V) (H' : Hp), SqT K H' t [x, .bl (!withinP one two)] → OrV K H' x (partP one two) → Ext [] H H' → Q (.ref t) H'
theorem ok_law_apart (T : Tx K mg) : FnOk P w K mg base CX0 3 T.law_apart.f T.law_apart.fd ["one", "two"] (sp_law_apart K) := by
  refine T.law_apart.F.ok sc_law_apart (fun vs H Q E h => ?_) (fun cdv A outer s H vs Q E hr h => ?_)
  · obtain ⟨v, u, one, two, rfl, _⟩ := h; rfl
  · obtain ⟨v, u, one, two, rfl, h1, fo, h2, ft, q⟩ := h
    obtain ⟨a1, ls1, rfl, ha1, hls1⟩ := id h1
    obtain ⟨a2, ls2, rfl, ha2, hls2⟩ := id h2
    have l1 := Paired.len hls1
    have l2 := Paired.len hls2
    have o8 := fo.eight
    have t8 := ft.eight
    have mul8 : one.length * two.length ≤ 64 := Nat.mul_le_mul o8 t8
    refine ⟨_, (pss_cons (ps_asg (pe_tup (pa_cons (pe_lst (pa_cons (pe_tup (pa_cons (pe_tup pa_nil) (pa_cons pe_int (pa_cons pe_int pa_nil)))) pa_nil)) (pa_cons (pe_lst (pa_cons (pe_tup (pa_cons pe_int (pa_cons pe_int pa_nil))) pa_nil)) (pa_cons pe_non (pa_cons pe_bl pa_nil))))) (pg_tup rfl (pgs_cons (pg_name (i := 2) sc_law_apart.nd rfl (.inl rfl)) (pgs_cons (pg_name (i := 3) sc_law_apart.nd rfl (.inl rfl)) (pgs_cons (pg_name (i := 4) sc_law_apart.nd rfl (.inl rfl)) (pgs_cons (pg_name (i := 5) sc_law_apart.nd rfl (.inl rfl)) pgs_nil))))))
      (pss_cons (ps_for PassesOwn.never rfl (pi_range1 (by rfl) T.n_range (pa_cons (pe_op op_add (pe_op op_mul (pe_callB call_len_seq (by rfl) T.n_len PySem.boot_len (pa_cons (pv 0) pa_nil)) (pe_callB call_len_seq (by rfl) T.n_len PySem.boot_len (pa_cons (pv 1) pa_nil))) pe_int) pa_nil)) (pg_name (i := 6) sc_law_apart.nd rfl (.inl rfl))
        (pss_cons (ps_set (i := 7) sc_law_apart.nd rfl (.inl rfl) (pe_lst pa_nil))
        (pss_cons (ps_for PassesOwn.never rfl (pi_list (pv 2)) (pg_tup rfl (pgs_cons (pg_name (i := 8) sc_law_apart.nd rfl (.inl rfl)) (pgs_cons (pg_name (i := 9) sc_law_apart.nd rfl (.inl rfl)) (pgs_cons (pg_name (i := 10) sc_law_apart.nd rfl (.inl rfl)) pgs_nil))))
          (pss_cons (ps_par (i := 11) (j := 12) (by rfl) sc_law_apart.nd rfl rfl (by decide) rfl rfl (pa_cons (pe_lc (own := [("message", 13), ("to", 15)]) rfl sc_law_apart.nd (pi_tup (pe_ix ix_tup (pv 0) (pv 9) (fun _ _ => rfl))) (blkOk_by (own := [("message", 13), ("to", 15)]) (N := ["one", "two", "level", "seen_pairs", "least", "is_more", "turn", "ahead", "row", "here", "there", "left", "right", "message", "pair", "to"]) (sc := defScope s_law_apart) (by decide +kernel)) (fun _ _ _ _ _ => (pg_tupK (n := 2) K rfl (pgs_cons (pg_name (i := 13) sc_law_apart.nd rfl (.inl rfl)) (pgs_cons (pg_name (i := 15) sc_law_apart.nd rfl (.inl rfl)) pgs_nil)))) (fun _ _ _ _ _ => pts_nil) (fun _ _ _ _ _ => (pv 13))) (pa_cons (pe_lc (own := [("message", 13), ("to", 15)]) rfl sc_law_apart.nd (pi_tup (pe_ix ix_tup (pv 1) (pv 10) (fun _ _ => rfl))) (blkOk_by (own := [("message", 13), ("to", 15)]) (N := ["one", "two", "level", "seen_pairs", "least", "is_more", "turn", "ahead", "row", "here", "there", "left", "right", "message", "pair", "to"]) (sc := defScope s_law_apart) (by decide +kernel)) (fun _ _ _ _ _ => (pg_tupK (n := 2) K rfl (pgs_cons (pg_name (i := 13) sc_law_apart.nd rfl (.inl rfl)) (pgs_cons (pg_name (i := 15) sc_law_apart.nd rfl (.inl rfl)) pgs_nil)))) (fun _ _ _ _ _ => pts_nil) (fun _ _ _ _ _ => (pv 13))) pa_nil)) (by rfl))
          (pss_one (ps_for PassesOwn.never rfl (pi_list (pe_callB (cr_sortedSet rfl) (by rfl) T.n_sorted (by decide +kernel) (pa_cons (pe_callTy (cr_setI rfl) (by rfl) T.n_set (by decide +kernel) (pa_cons (pe_op op_cat (pv 11) (pv 12)) pa_nil)) pa_nil))) (pg_name (i := 13) sc_law_apart.nd rfl (.inl rfl))
            (pss_one (ps_if (PW.pt (pw_and (pt_cmpR op_in_seq (pv 13) (pv 11) (by rfl)) (pw_and1 (pt_cmpR op_in_seq (pv 13) (pv 12) (by rfl)))))
              (pss_cons (ps_set (i := 14) sc_law_apart.nd rfl (.inl rfl) (pe_tup (pa_cons (pe_call (ok_law_book_next T) (hr.mono (by decide)) (by rfl) T.law_book_next.g T.law_book_next.F.kp T.law_book_next.b .nil pass0 (pa_cons (pv 0) (pa_cons (pv 9) (pa_cons (pv 13) pa_nil)))) (pa_cons (pe_call (ok_law_book_next T) (hr.mono (by decide)) (by rfl) T.law_book_next.g T.law_book_next.F.kp T.law_book_next.b .nil pass0 (pa_cons (pv 1) (pa_cons (pv 10) (pa_cons (pv 13) pa_nil)))) pa_nil))))
              (pss_one (ps_if (pt_cmpR (op_notInDK K (units65 hr)) (pv 14) (pv 3) (by rfl))
                (pss_cons (ps_expr (pe_bm PySem.F.plainAttrs_list PySem.F.slot_list_append PySem.F.type_list_append mt_append (pv 3) (pa_cons (pv 14) pa_nil)))
                (pss_one (ps_expr (pe_bm PySem.F.plainAttrs_list PySem.F.slot_list_append PySem.F.type_list_append mt_append (pv 7) (pa_cons (pe_tup (pa_cons (pe_op op_catA (pv 8) (pe_tup (pa_cons (pv 13) pa_nil))) (pa_cons (pe_ix ix_tup (pv 14) pe_int (fun _ _ => rfl)) (pa_cons (pe_ix ix_tup (pv 14) pe_int (fun _ _ => rfl)) pa_nil)))) pa_nil)))))
                pss_nil)))
              (pss_cons (ps_set (i := 5) sc_law_apart.nd rfl (.inl rfl) (pe_or (pv 5) (pe_one (pe_cmpR op_in_seq (pv 13) (pv 11) (by rfl)))))
              (pss_one (ps_set (i := 4) sc_law_apart.nd rfl (.inl rfl) (pe_mid (pe_ifExp (pt_cmpR op_isN (pv 4) pe_non (nomark _)) (pe_op op_catA (pv 8) (pe_tup (pa_cons (pv 13) pa_nil))) (pv 4))))))))))))
        (pss_one (ps_set (i := 2) sc_law_apart.nd rfl (.inl rfl) (pv 7))))))
      (pss_one (ps_ret (pe_tup (pa_cons (pv 4) (pa_cons (pv 5) pa_nil))))))), ?_⟩
    -- level, seen_pairs, least, is_more
    refine ⟨Nat.zero_le _, fun e0 he0 => ⟨(by show 3 ≤ sizeLine; decide), fun t0 ht0 => ⟨(by show 1 ≤ sizeLine; decide), fun lv hlv => ⟨(by show 2 ≤ sizeLine; decide), fun k0 hk0 => ⟨(by show 1 ≤ sizeLine; decide), fun sp hsp => ⟨(by show 4 ≤ sizeLine; decide), fun tt htt => ?_⟩⟩⟩⟩⟩⟩
    have x1 : Ext [] H (upd (upd H e0 (.tup [])) t0 (.tup [.ref e0, .int 0, .int 0])) := (Ext.new he0).trans (Ext.new ht0)
    have it0 : PItV K (upd (upd H e0 (.tup [])) t0 (.tup [.ref e0, .int 0, .int 0])) (.ref t0) ([], 0, 0) := ⟨t0, e0, rfl, .of upd_same, .of ((Ext.new (L := []) ht0).at upd_same (by simp))⟩
    generalize upd (upd H e0 (.tup [])) t0 (.tup [.ref e0, .int 0, .int 0]) = H1 at *
    have hlvH : H lv = none := x1.free hlv
    have x2 : Ext [] H1 (upd (upd H1 lv (.lst [.ref t0])) k0 (.tup [.int 0, .int 0])) := (Ext.new hlv).trans (Ext.new hk0)
    have hlv2 : upd (upd H1 lv (.lst [.ref t0])) k0 (.tup [.int 0, .int 0]) lv = some (.lst [.ref t0]) := (Ext.new (L := []) hk0).at upd_same (by simp)
    have mv0 : MvV K (upd (upd H1 lv (.lst [.ref t0])) k0 (.tup [.int 0, .int 0])) k0 (0, 0) := .of upd_same
    have it2 := it0.ext x2 Lsts.nil
    generalize upd (upd H1 lv (.lst [.ref t0])) k0 (.tup [.int 0, .int 0]) = H2 at *
    have hspH : H sp = none := (x1.trans x2).free hsp
    have lvsp : lv ≠ sp := ne_of_none hlv2 hsp
    have x3 : Ext [] H2 (upd (upd H2 sp (.lst [.ref k0])) tt (.tup [.ref lv, .ref sp, .non, .bl false])) := (Ext.new hsp).trans (Ext.new htt)
    have hsp3 : upd (upd H2 sp (.lst [.ref k0])) tt (.tup [.ref lv, .ref sp, .non, .bl false]) sp = some (.lst ([k0].map V.ref)) := (Ext.new (L := []) htt).at upd_same (by simp)
    refine ⟨tt, _, rfl, .of upd_same, rfl, _, _, rfl, _, _, rfl, _, _, rfl, _, _, rfl, rfl, ?_⟩
    have hlv3 := x3.at hlv2 (by simp)
    have it3 := it2.ext x3 Lsts.nil
    have mv3 := x3.tup Lsts.nil mv0
    have e3 := (x1.trans x2).trans x3
    generalize upd (upd H2 sp (.lst [.ref k0])) tt (.tup [.ref lv, .ref sp, .non, .bl false]) = H3 at *
    clear x1 x2 x3 it0 it2 mv0 hlv2 he0 ht0 hlv hk0 hsp htt
    -- turns
    refine ⟨_, rfl, a1, _, rfl, .inr (e3.tup Lsts.nil ha1), _, rfl, a2, _, rfl, .inr (e3.tup Lsts.nil ha2), _, _, rfl, rfl, ?cm, _, _, rfl, rfl, _, rfl, ?_⟩
    case cm => exact .inl ⟨by omega, by omega⟩
    have eN : ((ls1.length : Int) * (ls2.length : Int) + 1) = ((one.length * two.length + 1 : Nat) : Int) := by rw [l1, l2]; push_cast; rfl
    rw [eN]
    refine ⟨by omega, by omega, ?_⟩
    rw [Int.toNat_natCast]
    refine for_range (lo := 0) (n := _) (fun t σ H' => ∃ (Q : List PIt) (d : Nat) (lv : Addr) (lxs : List V) (ps : List Addr) (least : V) (y6 y7 y8 y9 y10 y11 y12 y13 y14 : Option V), σ = [some (.ref a1), some (.ref a2), some (.ref lv), some (.ref sp), some least, some (.bl ((Q.take d).any fun e => !withinE one two e)), y6, y7, y8, y9, y10, y11, y12, y13, y14, none] ∧ PIE one two Q d ∧ (t ≤ d ∨ d = Q.length) ∧
      H' lv = some (.lst lxs) ∧ Paired (PItV K H') lxs (Q.drop d) ∧ H' sp = some (.lst (ps.map V.ref)) ∧ Paired (MvV K H') ps (Q.map (·.2)) ∧ OrV K H' least ((Q.take d).findSome? (partE one two)) ∧ H lv = none ∧ lv ≠ sp ∧ Ext [] H H')
      ⟨[([], 0, 0)], 0, lv, [.ref t0], [k0], _, _, _, _, _, _, _, _, _, _, rfl, .first fo.one ft.one, .inl (Nat.le_refl _), hlv3, .cons it3 .nil, hsp3, (show Paired (MvV K H3) [k0] ([(([] : List Nat), 0, 0)].map (·.2)) from .cons mv3 .nil), .inl ⟨rfl, rfl⟩, hlvH, lvsp, e3⟩ ?_ ?_
    · rintro t σ H4 ht ⟨Q0, d0, lv, lxs, ps, least, y6, y7, y8, y9, y10, y11, y12, y13, y14, rfl, pi0, td, hlv, hlx, hsp, hps, hle, lvH, lvsp, e4⟩
      -- ahead = []
      refine ⟨Nat.zero_le _, fun ah hah => ?_⟩
      have ahH : H ah = none := e4.free hah
      have lvah : lv ≠ ah := ne_of_none hlv hah
      have spah : sp ≠ ah := ne_of_none hsp hah
      have e5 : Ext [] H4 (upd H4 ah (.lst [])) := .new hah
      have hah5 : upd H4 ah (.lst []) ah = some (.lst []) := upd_same
      have hlv5 := e5.at hlv (by simp)
      have hsp5 := e5.at hsp (by simp)
      have hlx5 := Paired.imp hlx fun _ _ z => z.ext e5 Lsts.nil
      have hps5 := Paired.imp hps fun _ _ z => e5.tup Lsts.nil z
      have hle5 := hle.ext e5 Lsts.nil
      have e45 := e4.trans e5
      clear hah e5 hlv hsp hlx hps hle e4
      generalize upd H4 ah (.lst []) = H5 at *
      have llen := Paired.len hlx5
      rw [List.length_drop] at llen
      have dle := pi0.le
      refine ⟨_, rfl, lv, rfl, ⟨_, .of hlv5⟩, ?_⟩
      refine for_list (K := K) (a := lv) (xs := lxs) (fun i σ H' => ∃ (R : List PIt) (axs : List V) (ps : List Addr) (least : V) (y8 y9 y10 y11 y12 y13 y14 : Option V), σ = [some (.ref a1), some (.ref a2), some (.ref lv), some (.ref sp), some least, some (.bl (((Q0 ++ R).take (d0 + i)).any fun e => !withinE one two e)), some (.int (0 + (t : Int))), some (.ref ah), y8, y9, y10, y11, y12, y13, y14, none] ∧ PIE one two (Q0 ++ R) (d0 + i) ∧
        H' lv = some (.lst lxs) ∧ Paired (PItV K H') lxs (Q0.drop d0) ∧ H' ah = some (.lst axs) ∧ Paired (PItV K H') axs R ∧ H' sp = some (.lst (ps.map V.ref)) ∧ Paired (MvV K H') ps ((Q0 ++ R).map (·.2)) ∧ OrV K H' least (((Q0 ++ R).take (d0 + i)).findSome? (partE one two)) ∧ Ext [] H H')
        ⟨[], [], ps, least, _, _, _, _, _, _, _, by rw [List.append_nil]; rfl, by rw [List.append_nil]; exact pi0, hlv5, hlx5, hah5, .nil, hsp5, by rw [List.append_nil]; exact hps5, by rw [List.append_nil]; exact hle5, e45⟩ (fun i σ H' _ ⟨_, _, _, _, _, _, _, _, _, _, _, _, _, h, _⟩ => .of h) ?_ ?_
      · rintro i x σ H' hx ⟨R, axs, ps, least, y8, y9, y10, y11, y12, y13, y14, rfl, pi, hlv, hlx, hah, hax, hsp, hps, hle, e⟩
        obtain ⟨it, hit0, hv⟩ := Paired.get' hlx hx
        rw [List.getElem?_drop] at hit0
        have hdl := (List.getElem?_eq_some_iff.mp hit0).1
        have hit : (Q0 ++ R)[d0 + i]? = some it := by rw [List.getElem?_append_left hdl]; exact hit0
        obtain ⟨ti, r, rfl, hti, hrw⟩ := hv
        obtain ⟨hl1, hl2⟩ := pi.lt it (List.mem_of_getElem? hit)
        obtain ⟨u1, hu1, c1, ps1, rfl, hc1, hps1⟩ := Paired.get hls1 (mvs_lt hl1)
        obtain ⟨u2, hu2, c2, ps2, rfl, hc2, hps2⟩ := Paired.get hls2 (mvs_lt hl2)
        have pl1 := Paired.len hps1
        have pl2 := Paired.len hps2
        have f1 := (fo.ok hl1).few
        have f2 := (ft.ok hl2).few
        refine ⟨ti, _, rfl, hti, rfl, _, _, rfl, _, _, rfl, _, _, rfl, rfl, ?_⟩
        -- left, right
        refine ⟨_, rfl, _, rfl, a1, _, _, _, rfl, rfl, e.tup Lsts.nil ha1, atI_nat hu1, c1, rfl, ⟨_, (e.tz Lsts.nil hc1).sq⟩, fun D1 hD1 => ?_⟩
        refine lc_tup (K := K) (a := c1) (xs := ps1.map V.ref) (fun k H3 => H3 D1 = some (.lst ((((mvs one it.2.1).take k).map (·.1)).map nV)) ∧ Ext [] H' H3) ⟨by simp; exact upd_same, .new hD1⟩ (fun k H3 _ ⟨_, z⟩ => ((e.trans z).tz Lsts.nil hc1).sq) ?_ ?_
        · rintro k y H4 hy ⟨hX, e4⟩
          obtain ⟨g, hg, rfl⟩ := map_at hy
          obtain ⟨p, hp, hcp⟩ := Paired.get' hps1 hg
          refine ⟨g, _, rfl, hcp.ext0 (e.trans e4), rfl, _, _, rfl, _, _, rfl, rfl, rfl, yes ?_⟩
          refine ⟨_, rfl, _, hX, ?_, ?_, e4.put hD1⟩
          · rw [List.length_map, List.length_map, List.length_take]
            exact small1000 (by omega)
          · rw [upd_same, List.take_add_one, hp, List.map_append, List.map_append]
            rfl
        rintro H6 ⟨hM, e6⟩
        rw [List.length_map, pl1, List.take_length] at hM
        have e06 := e.trans e6
        refine ⟨_, rfl, _, rfl, a2, _, _, _, rfl, rfl, e06.tup Lsts.nil ha2, atI_nat hu2, c2, rfl, ⟨_, (e06.tz Lsts.nil hc2).sq⟩, fun D2 hD2 => ?_⟩
        refine lc_tup (K := K) (a := c2) (xs := ps2.map V.ref) (fun k H3 => H3 D2 = some (.lst ((((mvs two it.2.2).take k).map (·.1)).map nV)) ∧ Ext [] H6 H3) ⟨by simp; exact upd_same, .new hD2⟩ (fun k H3 _ ⟨_, z⟩ => ((e06.trans z).tz Lsts.nil hc2).sq) ?_ ?_
        · rintro k y H5 hy ⟨hX, e5⟩
          obtain ⟨g, hg, rfl⟩ := map_at hy
          obtain ⟨p, hp, hcp⟩ := Paired.get' hps2 hg
          refine ⟨g, _, rfl, hcp.ext0 (e06.trans e5), rfl, _, _, rfl, _, _, rfl, rfl, rfl, yes ?_⟩
          refine ⟨_, rfl, _, hX, ?_, ?_, e5.put hD2⟩
          · rw [List.length_map, List.length_map, List.length_take]
            exact small1000 (by omega)
          · rw [upd_same, List.take_add_one, hp, List.map_append, List.map_append]
            rfl
        rintro H7 ⟨hO, e7⟩
        rw [List.length_map, pl2, List.take_length] at hO
        have hM7 := e7.at hM (by simp)
        refine ⟨_, _, rfl, ?_⟩
        -- sorted(set(left + right))
        refine ⟨_, rfl, _, rfl, D1, D2, _, _, rfl, rfl, hM7, hO, ?_, fun cc hcc => ?_⟩
        · rw [List.length_map, List.length_map, List.length_map, List.length_map]
          exact Nat.le_of_lt (small1000 (by omega))
        have e8 : Ext [] H7 (upd H7 cc (.lst (((mvs one it.2.1).map (·.1)).map nV ++ ((mvs two it.2.2).map (·.1)).map nV))) := .new hcc
        refine ⟨cc, ((mvs one it.2.1).map (·.1) ++ (mvs two it.2.2).map (·.1)).map (fun n : Nat => (n : Int)), rfl, .of ?_, ?_, fun p z hp hz => ?_⟩
        · rw [upd_same, ← List.map_append, map_nV_int]
        · rw [List.length_map, List.length_append, List.length_map, List.length_map]
          omega
        have e9 := e8.trans (Ext.new (L := []) (o := SetO w p (fun j => decide (j ∈ ((mvs one it.2.1).map (·.1) ++ (mvs two it.2.2).map (·.1)).map (fun n : Nat => (n : Int)))) z) hp)
        refine ⟨p, _, z, rfl, upd_same, ?_, fun ns tu hns hmem hlen htu => ?_⟩
        · rw [List.length_map, List.length_append, List.length_map, List.length_map] at hz
          omega
        have nn : ∃ ms : List Nat, ns = ms.map (fun n : Nat => (n : Int)) := by
          refine ⟨ns.map Int.toNat, ?_⟩
          rw [List.map_map]
          conv => lhs; rw [← List.map_id ns]
          refine List.map_congr_left fun x hx => ?_
          have := (hmem x).mp hx
          have := of_decide_eq_true this
          obtain ⟨n, _, rfl⟩ := List.mem_map.mp this
          rfl
        obtain ⟨U, rfl⟩ := nn
        have uo : UOf (mvs one it.2.1) (mvs two it.2.2) U := by
          refine ⟨?_, fun m => ?_⟩
          · rw [List.pairwise_map] at hns
            exact hns.imp fun h => by omega
          · have a := hmem (m : Int)
            have b1 : (m : Int) ∈ U.map (fun n : Nat => (n : Int)) ↔ m ∈ U := by
              rw [List.mem_map]
              exact ⟨fun ⟨x, hx, e⟩ => by rw [show m = x by omega]; exact hx, fun h => ⟨m, h, rfl⟩⟩
            rw [b1, decide_eq_true_eq, List.mem_map] at a
            rw [a, ← List.mem_append]
            exact ⟨fun ⟨x, hx, e⟩ => by rw [show m = x by omega]; exact hx, fun h => ⟨m, h, rfl⟩⟩
        have e10 := e9.trans (Ext.new (L := []) (o := .lst ((U.map (fun n : Nat => (n : Int))).map V.int)) htu)
        have hU10 : upd (upd (upd H7 cc (.lst (((mvs one it.2.1).map (·.1)).map nV ++ ((mvs two it.2.2).map (·.1)).map nV))) p (SetO w p (fun j => decide (j ∈ ((mvs one it.2.1).map (·.1) ++ (mvs two it.2.2).map (·.1)).map (fun n : Nat => (n : Int)))) z)) tu (.lst ((U.map (fun n : Nat => (n : Int))).map V.int)) tu = some (.lst (U.map nV)) := by
          rw [upd_same, ← map_nV_int]
        have tuN : tu ≠ sp ∧ tu ≠ ah ∧ tu ≠ D1 ∧ tu ≠ D2 := by
          have e69 := (e6.trans e7).trans e9
          exact ⟨(ne_of_none (e69.at hsp (by simp)) htu).symm, (ne_of_none (e69.at hah (by simp)) htu).symm, (ne_of_none (e9.at hM7 (by simp)) htu).symm, (ne_of_none (e9.at hO (by simp)) htu).symm⟩
        have d1N : D1 ≠ sp ∧ D1 ≠ ah := by
          refine ⟨fun z => ?_, fun z => ?_⟩
          · rw [z, hsp] at hD1; cases hD1
          · rw [z, hah] at hD1; cases hD1
        have d2N : D2 ≠ sp ∧ D2 ≠ ah := by
          refine ⟨fun z => ?_, fun z => ?_⟩
          · rw [z, e6.at hsp (by simp)] at hD2; cases hD2
          · rw [z, e6.at hah (by simp)] at hD2; cases hD2
        dsimp only [cxOf, Cx.nox]
        generalize upd (upd (upd H7 cc (.lst (((mvs one it.2.1).map (·.1)).map nV ++ ((mvs two it.2.2).map (·.1)).map nV))) p (SetO w p (fun j => decide (j ∈ ((mvs one it.2.1).map (·.1) ++ (mvs two it.2.2).map (·.1)).map (fun n : Nat => (n : Int)))) z)) tu (.lst ((U.map (fun n : Nat => (n : Int))).map V.int)) = Hb at *
        clear hp hz hcc e8 e9 htu hmem hlen hns
        have hMb := e10.at hM7 (by simp)
        have hOb := e10.at hO (by simp)
        have eAll := (e6.trans e7).trans e10
        have eb := e.trans eAll
        have hlvb := eAll.at hlv (by simp)
        have hahb := eAll.at hah (by simp)
        have hspb := eAll.at hsp (by simp)
        have hlxb := Paired.imp hlx fun _ _ z => z.ext eAll Lsts.nil
        have haxb := Paired.imp hax fun _ _ z => z.ext eAll Lsts.nil
        have hpsb : Paired (MvV K Hb) ps ((Q0 ++ R).map (·.2)) := Paired.imp hps fun _ _ z => eAll.tup Lsts.nil z
        have hleb := hle.ext eAll Lsts.nil
        have hrwb := eAll.tup Lsts.nil hrw
        clear hlv hah hsp hlx hax hps hle hrw hti eAll hM hM7 hO hD1 hD2 e6 e7 e10 e06 e
        have inU : ∀ p ∈ mvs one it.2.1, p.1 ∈ U := fun p hp => (uo.mem _).mpr (.inl (List.mem_map.mpr ⟨p, hp, rfl⟩))
        have ulen : U.length ≤ 10 := by
          have := List.Nodup.length_le_of_subset (srt_nodup uo.srt) (l₂ := (mvs one it.2.1).map (·.1) ++ (mvs two it.2.2).map (·.1)) fun m hm => List.mem_append.mpr ((uo.mem m).mp hm)
          rw [List.length_append, List.length_map, List.length_map] at this
          omega
        refine ⟨tu, rfl, ⟨_, .of hU10⟩, ?_⟩
        rw [show ((Q0 ++ R).take (d0 + i)).any (fun e => !withinE one two e) = MoreAt one two (Q0 ++ R) (d0 + i) it U 0 from more_zero.symm]
        refine for_list (D := ⟨_, _, fun _ _ => False, fun _ _ => False⟩) (K := K) (a := tu) (xs := U.map nV) (fun j σ H' => ∃ (R : List PIt) (k : Nat) (axs : List V) (ps : List Addr) (least : V) (y13 y14 : Option V), σ = [some (.ref a1), some (.ref a2), some (.ref lv), some (.ref sp), some least, some (.bl (MoreAt one two (Q0 ++ R) (d0 + i) it U j)), some (.int (0 + (t : Int))), some (.ref ah), some (.ref r), some (.int it.2.1), some (.int it.2.2), some (.ref D1), some (.ref D2), y13, y14, none] ∧ PWE one two (Q0 ++ R) (d0 + i) it k ∧ Cnt (mvs one it.2.1) U j k ∧
          H' lv = some (.lst lxs) ∧ Paired (PItV K H') lxs (Q0.drop d0) ∧ H' ah = some (.lst axs) ∧ Paired (PItV K H') axs R ∧ H' sp = some (.lst (ps.map V.ref)) ∧ Paired (MvV K H') ps ((Q0 ++ R).map (·.2)) ∧ OrV K H' least (LeastAt one two (Q0 ++ R) (d0 + i) it U j) ∧
          H' D1 = some (.lst (((mvs one it.2.1).map (·.1)).map nV)) ∧ H' D2 = some (.lst (((mvs two it.2.2).map (·.1)).map nV)) ∧ SqT K H' r (it.1.map nV) ∧ H' tu = some (.lst (U.map nV)) ∧ Ext [] H H')
          ⟨R, 0, axs, ps, least, y13, y14, rfl, pi.begin hit, .first, hlvb, hlxb, hahb, haxb, hspb, hpsb, by rw [least_zero]; exact hleb, hMb, hOb, hrwb, hU10, eb⟩ (fun j σ H' _ ⟨_, _, _, _, _, _, _, _, _, _, _, _, _, _, _, _, _, _, _, _, h, _⟩ => .of h) ?_ ?_
        · rintro j y σ Hc hy ⟨R, k, axs, ps, least, y13, y14, rfl, pw, cnt, hlv, hlx, hah, hax, hsp, hps, hle, hM, hO, hrw, hU, e⟩
          obtain ⟨m, hm, rfl⟩ := map_at hy
          have hdle : d0 + i ≤ (Q0 ++ R).length := Nat.le_of_lt (List.getElem?_eq_some_iff.mp pw.here).1
          have most := pw.most
          have plen := Paired.len hps
          have axl := Paired.len hax
          rw [List.length_map] at plen
          have rle : R.length ≤ (Q0 ++ R).length := by rw [List.length_append]; omega
          refine ⟨_, rfl, _, rfl, D1, _, rfl, .inl (.of hM), rfl, flat_nV _, _, rfl, ?_⟩
          rw [inV_nV]
          by_cases hL : m ∈ (mvs one it.2.1).map (·.1)
          · rw [decide_eq_true hL]
            refine iteT ⟨_, rfl, _, rfl, D2, _, rfl, .inl (.of hO), rfl, flat_nV _, _, rfl, ?_⟩
            rw [inV_nV]
            obtain ⟨p, hp, hpm, cnt'⟩ := cnt.here (fo.rise _) uo.srt inU hm hL
            by_cases hR : m ∈ (mvs two it.2.2).map (·.1)
            · rw [decide_eq_true hR]
              obtain ⟨q2, ho, hq2, hq2m⟩ := othF_of (ft.rise it.2.2) hR
              have ho : othF (mvs two it.2.2) p.1 = some q2 := by rw [hpm]; exact ho
              have oneF : oneOf (mvs one it.2.1) (mvs two it.2.2) m = false := by unfold oneOf; rw [decide_eq_true hL, decide_eq_true hR]; rfl
              have moreF : moreOf (mvs one it.2.1) (mvs two it.2.2) m = false := by unfold moreOf; rw [decide_eq_true hL, decide_eq_true hR]; rfl
              have eM : MoreAt one two (Q0 ++ R) (d0 + i) it U (j + 1) = MoreAt one two (Q0 ++ R) (d0 + i) it U j := by rw [more_step hm, moreF, Bool.or_false]
              have eL := least_same (one := one) (two := two) (Q := Q0 ++ R) (d := d0 + i) hm oneF
              refine iteT ?_
              -- pair
              refine ⟨_, rfl, _, rfl, _, rfl, .ref a1, one, it.2.1, p, (by rw [hpm]; rfl), h1.ext0 e, fo, hl1, List.mem_of_getElem? hp, fun Hd ed => ?_⟩
              refine ⟨_, rfl, _, rfl, _, rfl, .ref a2, two, it.2.2, q2, (by rw [hq2m]; rfl), h2.ext0 (e.trans ed), ft, hl2, hq2, fun He ee => ?_⟩
              refine ⟨(by show 2 ≤ sizeLine; decide), fun tp htp => ?_⟩
              have ef : Ext [] He (upd He tp (.tup [.int p.2, .int q2.2])) := .new htp
              have ecf := (ed.trans ee).trans ef
              have htp' : MvV K (upd He tp (.tup [.int p.2, .int q2.2])) tp (p.2, q2.2) := .of upd_same
              have hlv' := ecf.at hlv (by simp)
              have hah' := ecf.at hah (by simp)
              have hsp' := ecf.at hsp (by simp)
              have hM' := ecf.at hM (by simp)
              have hO' := ecf.at hO (by simp)
              have hU' := ecf.at hU (by simp)
              have hlx' := Paired.imp hlx fun _ _ z => z.ext ecf Lsts.nil
              have hax' := Paired.imp hax fun _ _ z => z.ext ecf Lsts.nil
              have hps' : Paired (MvV K (upd He tp (.tup [.int p.2, .int q2.2]))) ps ((Q0 ++ R).map (·.2)) := Paired.imp hps fun _ _ z => ecf.tup Lsts.nil z
              have hle' := hle.ext ecf Lsts.nil
              have hrw' := ecf.tup Lsts.nil hrw
              have e' := e.trans ecf
              clear hlv hah hsp hM hO hU hlx hax hps hle hrw e ecf ef htp ed ee
              generalize upd He tp (.tup [.int p.2, .int q2.2]) = Hf at *
              refine ⟨_, rfl, _, rfl, mvD (p.2, q2.2), ((Q0 ++ R).map (·.2)).map mvD, .tup htp' (.cons (.int _) (.cons (.int _) .nil)), (.lst (.of hsp') (dp_mvs hps')), shaped_mvD _, shaped_mvs _, _, rfl, ?_⟩
              rw [any_mvD]
              by_cases hin : (p.2, q2.2) ∈ (Q0 ++ R).map (·.2)
              · rw [decide_eq_true hin]
                exact iteF ⟨R, k + 1, axs, ps, least, _, _, (by rw [eM]; rfl), pw.skip hp fun q hq => (by rw [ho] at hq; cases hq; exact hin), cnt', hlv', hlx', hah', hax', hsp', hps', by rw [eL]; exact hle', hM', hO', hrw', hU', e'⟩
              · rw [decide_eq_false hin]
                refine iteT ?_
                refine ⟨_, rfl, .inl ⟨rfl, _, .of hsp'⟩, _, rfl, sp, _, _, rfl, rfl, hsp', small1000 (by rw [List.length_map]; omega), ?_⟩
                have ew : Ext [sp] Hf (upd Hf sp (.lst (ps.map V.ref ++ [.ref tp]))) := .wr (by simp)
                have lw := one_lst hsp'
                have hah2 : upd Hf sp (.lst (ps.map V.ref ++ [.ref tp])) ah = some (.lst axs) := by rw [upd_ne spah.symm]; exact hah'
                have hlv2 : upd Hf sp (.lst (ps.map V.ref ++ [.ref tp])) lv = some (.lst lxs) := by rw [upd_ne lvsp]; exact hlv'
                have hM2 : upd Hf sp (.lst (ps.map V.ref ++ [.ref tp])) D1 = _ := (upd_ne d1N.1).trans hM'
                have hO2 : upd Hf sp (.lst (ps.map V.ref ++ [.ref tp])) D2 = _ := (upd_ne d2N.1).trans hO'
                have hU2 : upd Hf sp (.lst (ps.map V.ref ++ [.ref tp])) tu = _ := (upd_ne tuN.1).trans hU'
                have hsp2 : upd Hf sp (.lst (ps.map V.ref ++ [.ref tp])) sp = some (.lst ((ps ++ [tp]).map V.ref)) := by rw [upd_same, List.map_append]; rfl
                have hps2 : Paired (MvV K (upd Hf sp (.lst (ps.map V.ref ++ [.ref tp])))) (ps ++ [tp]) ((Q0 ++ R ++ [(it.1 ++ [p.1], p.2, q2.2)]).map (·.2)) := by
                  rw [List.map_append]
                  have mvt : MvV K (upd Hf sp (.lst (ps.map V.ref ++ [V.ref tp]))) tp (p.2, q2.2) := ew.tup lw htp'
                  have mvl : Paired (MvV K (upd Hf sp (.lst (ps.map V.ref ++ [V.ref tp])))) ps ((Q0 ++ R).map (·.2)) := Paired.imp hps' fun _ _ z => ew.tup lw z
                  exact Paired.snoc mvt mvl
                have hlx2 := Paired.imp hlx' fun _ _ z => z.ext ew lw
                have hax2 := Paired.imp hax' fun _ _ z => z.ext ew lw
                have hle2 := hle'.ext ew lw
                have hrw2 := ew.tup lw hrw'
                have htp2 := ew.tup lw htp'
                have e2 := e'.put (o := .lst (ps.map V.ref ++ [.ref tp])) hspH
                clear hlv' hah' hsp' hM' hO' hU' hlx' hax' hps' hle' hrw' e' ew lw htp'
                generalize upd Hf sp (.lst (ps.map V.ref ++ [.ref tp])) = Hg at *
                have rlen := pw.row it (List.mem_of_getElem? pw.here)
                have fin : ∀ (nr t4 : Addr) (H8 : Hp), Ext [] Hg H8 → SqT K H8 nr ((it.1 ++ [p.1]).map nV) → H8 t4 = none →
                    ∃ (R' : List PIt) (k' : Nat) (axs' : List V) (ps' : List Addr) (least' : V) (y13 y14 : Option V), ([some (.ref a1), some (.ref a2), some (.ref lv), some (.ref sp), some least, some (.bl (MoreAt one two (Q0 ++ R) (d0 + i) it U j)), some (.int (0 + (t : Int))), some (.ref ah), some (.ref r), some (.int it.2.1), some (.int it.2.2), some (.ref D1), some (.ref D2), some (nV m), some (.ref tp), none] : L2.St) = [some (.ref a1), some (.ref a2), some (.ref lv), some (.ref sp), some least', some (.bl (MoreAt one two (Q0 ++ R') (d0 + i) it U (j + 1))), some (.int (0 + (t : Int))), some (.ref ah), some (.ref r), some (.int it.2.1), some (.int it.2.2), some (.ref D1), some (.ref D2), y13, y14, none] ∧ PWE one two (Q0 ++ R') (d0 + i) it k' ∧ Cnt (mvs one it.2.1) U (j + 1) k' ∧
                      upd (upd H8 t4 (.tup [.ref nr, .int p.2, .int q2.2])) ah (.lst (axs ++ [.ref t4])) lv = some (.lst lxs) ∧ Paired (PItV K (upd (upd H8 t4 (.tup [.ref nr, .int p.2, .int q2.2])) ah (.lst (axs ++ [.ref t4])))) lxs (Q0.drop d0) ∧ upd (upd H8 t4 (.tup [.ref nr, .int p.2, .int q2.2])) ah (.lst (axs ++ [.ref t4])) ah = some (.lst axs') ∧ Paired (PItV K (upd (upd H8 t4 (.tup [.ref nr, .int p.2, .int q2.2])) ah (.lst (axs ++ [.ref t4])))) axs' R' ∧
                      upd (upd H8 t4 (.tup [.ref nr, .int p.2, .int q2.2])) ah (.lst (axs ++ [.ref t4])) sp = some (.lst (ps'.map V.ref)) ∧ Paired (MvV K (upd (upd H8 t4 (.tup [.ref nr, .int p.2, .int q2.2])) ah (.lst (axs ++ [.ref t4])))) ps' ((Q0 ++ R').map (·.2)) ∧ OrV K (upd (upd H8 t4 (.tup [.ref nr, .int p.2, .int q2.2])) ah (.lst (axs ++ [.ref t4]))) least' (LeastAt one two (Q0 ++ R') (d0 + i) it U (j + 1)) ∧
                      upd (upd H8 t4 (.tup [.ref nr, .int p.2, .int q2.2])) ah (.lst (axs ++ [.ref t4])) D1 = some (.lst (((mvs one it.2.1).map (·.1)).map nV)) ∧ upd (upd H8 t4 (.tup [.ref nr, .int p.2, .int q2.2])) ah (.lst (axs ++ [.ref t4])) D2 = some (.lst (((mvs two it.2.2).map (·.1)).map nV)) ∧ SqT K (upd (upd H8 t4 (.tup [.ref nr, .int p.2, .int q2.2])) ah (.lst (axs ++ [.ref t4]))) r (it.1.map nV) ∧ upd (upd H8 t4 (.tup [.ref nr, .int p.2, .int q2.2])) ah (.lst (axs ++ [.ref t4])) tu = some (.lst (U.map nV)) ∧ Ext [] H (upd (upd H8 t4 (.tup [.ref nr, .int p.2, .int q2.2])) ah (.lst (axs ++ [.ref t4]))) := by
                  intro nr t4 H8 e8 hnr ht4
                  have e9 : Ext [] H8 (upd H8 t4 (.tup [.ref nr, .int p.2, .int q2.2])) := .new ht4
                  have e89 := e8.trans e9
                  have ha9 := e89.at hah2 (by simp)
                  have l9 := one_lst ha9
                  have ew : Ext [ah] (upd H8 t4 (.tup [.ref nr, .int p.2, .int q2.2])) (upd (upd H8 t4 (.tup [.ref nr, .int p.2, .int q2.2])) ah (.lst (axs ++ [.ref t4]))) := .wr (by simp)
                  have eQ : Q0 ++ R ++ [(it.1 ++ [p.1], p.2, q2.2)] = Q0 ++ (R ++ [(it.1 ++ [p.1], p.2, q2.2)]) := List.append_assoc _ _ _
                  have pw' := pw.push fo ft hp ho hin
                  have m' : MoreAt one two (Q0 ++ (R ++ [(it.1 ++ [p.1], p.2, q2.2)])) (d0 + i) it U (j + 1) = MoreAt one two (Q0 ++ R) (d0 + i) it U j := by rw [← eQ, more_grow hdle, eM]
                  have l' : LeastAt one two (Q0 ++ (R ++ [(it.1 ++ [p.1], p.2, q2.2)])) (d0 + i) it U (j + 1) = LeastAt one two (Q0 ++ R) (d0 + i) it U j := by rw [← eQ, least_grow hdle, eL]
                  rw [eQ] at pw' hps2
                  refine ⟨R ++ [(it.1 ++ [p.1], p.2, q2.2)], k + 1, axs ++ [.ref t4], ps ++ [tp], least, _, _, by rw [m'], pw', cnt', by rw [upd_ne lvah]; exact e89.at hlv2 (by simp), Paired.imp hlx2 fun _ _ z => (z.ext e89 Lsts.nil).ext ew l9, upd_same, ?_, by rw [upd_ne spah]; exact e89.at hsp2 (by simp), Paired.imp hps2 fun _ _ z => ew.tup l9 (e89.tup Lsts.nil z), by rw [l']; exact (hle2.ext e89 Lsts.nil).ext ew l9, by rw [upd_ne d1N.2]; exact e89.at hM2 (by simp), by rw [upd_ne d2N.2]; exact e89.at hO2 (by simp), ew.tup l9 (e89.tup Lsts.nil hrw2), by rw [upd_ne tuN.2.1]; exact e89.at hU2 (by simp), (e2.trans e89).put ahH⟩
                  exact Paired.snoc ⟨t4, nr, rfl, ew.tup l9 (.of upd_same), ew.tup l9 (e9.tup Lsts.nil hnr)⟩ (Paired.imp hax2 fun _ _ z => (z.ext e89 Lsts.nil).ext ew l9)
                refine ⟨_, rfl, .inl ⟨rfl, _, .of hah2⟩, _, rfl, _, rfl, (by show 1 ≤ sizeLine; decide), fun g2 hg2 => ?_⟩
                have e5 : Ext [] Hg (upd Hg g2 (.tup [nV m])) := .new hg2
                refine ⟨r, g2, _, _, rfl, rfl, e5.tup Lsts.nil hrw2, .of upd_same, ?_, fun h0 => ?_, fun _ h0 => (by cases h0), fun _ _ g3 hg3 => ?_⟩
                · rw [List.length_map]
                  show it.1.length + 1 ≤ sizeLine
                  exact Nat.le_of_lt (small1000 (by omega))
                · have hnr : SqT K (upd Hg g2 (.tup [nV m])) g2 ((it.1 ++ [p.1]).map nV) := by
                    have h0 : it.1.map nV = [] := h0
                    rw [List.map_append, h0, hpm]
                    exact .of upd_same
                  refine ⟨_, rfl, tp, _, 0, _, rfl, rfl, e5.tup Lsts.nil htp2, atI_nat (j := 0) rfl, _, rfl, tp, _, 1, _, rfl, rfl, e5.tup Lsts.nil htp2, atI_nat (j := 1) rfl, (by show 3 ≤ sizeLine; decide), fun t4 ht4 => ?_⟩
                  exact ⟨ah, _, _, rfl, rfl, (e5.trans (Ext.new ht4)).at hah2 (by simp), small1000 (by omega), fin g2 t4 _ e5 hnr ht4⟩
                · have e6 := e5.put2 (o := .tup (it.1.map nV ++ [nV m])) hg3
                  have hnr : SqT K (upd (upd Hg g2 (.tup [nV m])) g3 (.tup (it.1.map nV ++ [nV m]))) g3 ((it.1 ++ [p.1]).map nV) := by
                    rw [List.map_append, hpm]
                    exact .of upd_same
                  refine ⟨_, rfl, tp, _, 0, _, rfl, rfl, e6.tup Lsts.nil htp2, atI_nat (j := 0) rfl, _, rfl, tp, _, 1, _, rfl, rfl, e6.tup Lsts.nil htp2, atI_nat (j := 1) rfl, (by show 3 ≤ sizeLine; decide), fun t4 ht4 => ?_⟩
                  exact ⟨ah, _, _, rfl, rfl, (e6.trans (Ext.new ht4)).at hah2 (by simp), small1000 (by omega), fin g3 t4 _ e6 hnr ht4⟩
            · rw [decide_eq_false hR]
              refine iteF ?_
              have oneT : oneOf (mvs one it.2.1) (mvs two it.2.2) m = true := by unfold oneOf; rw [decide_eq_true hL, decide_eq_false hR]; rfl
              have moreE : moreOf (mvs one it.2.1) (mvs two it.2.2) m = decide (m ∈ (mvs one it.2.1).map (·.1)) := by unfold moreOf; rw [decide_eq_true hL, decide_eq_false hR]; rfl
              have eL := least_new (one := one) (two := two) (Q := Q0 ++ R) (d := d0 + i) hm oneT
              refine ⟨_, rfl, _, rfl, or_in (K := K) (new := MoreAt one two (Q0 ++ R) (d0 + i) it U (j + 1)) (d := decide (m ∈ (mvs one it.2.1).map (·.1))) (by rw [more_step hm, moreE]) (fun Q' q' => ⟨_, rfl, _, rfl, D1, _, rfl, .inl (.of hM), rfl, flat_nV _, by rw [show (if false = true then !inV (nV m) (((mvs one it.2.1).map (·.1)).map nV) else inV (nV m) (((mvs one it.2.1).map (·.1)).map nV)) = decide (m ∈ (mvs one it.2.1).map (·.1)) from inV_nV m _]; exact q'⟩) ?_⟩
              refine ⟨fun v H' => OrV K H' v (LeastAt one two (Q0 ++ R) (d0 + i) it U (j + 1)) ∧ Ext [] Hc H', ?_, ?_⟩
              · refine ⟨_, rfl, rfl, _, rfl, ?_⟩
                rw [eL]
                rcases hle with ⟨hn, rfl⟩ | ⟨la, lr, hs, rfl, hl⟩
                · rw [hn]
                  refine iteT ⟨_, rfl, _, rfl, (by show 1 ≤ sizeLine; decide), fun g2 hg2 => ?_⟩
                  have e5 : Ext [] Hc (upd Hc g2 (.tup [nV m])) := .new hg2
                  have rlen := pw.row it (List.mem_of_getElem? pw.here)
                  refine ⟨r, g2, _, _, rfl, rfl, e5.tup Lsts.nil hrw, .of upd_same, ?_, fun h0 => ?_, fun _ h0 => (by cases h0), fun _ _ g3 hg3 => ?_⟩
                  · rw [List.length_map]
                    show it.1.length + 1 ≤ sizeLine
                    exact Nat.le_of_lt (small1000 (by omega))
                  · have h0 : it.1.map nV = [] := h0
                    refine ⟨.inr ⟨g2, it.1 ++ [m], rfl, rfl, ?_⟩, e5⟩
                    rw [List.map_append, h0]
                    exact .of upd_same
                  · refine ⟨.inr ⟨g3, it.1 ++ [m], rfl, rfl, ?_⟩, e5.put2 hg3⟩
                    rw [List.map_append]
                    exact .of upd_same
                · rw [hs]
                  exact iteF ⟨_, rfl, .inr ⟨la, lr, rfl, rfl, hl⟩, .refl⟩
              · rintro lv' He ⟨hlv', ev⟩
                exact ⟨R, k + 1, axs, ps, lv', _, _, rfl, pw.skip hp (fun q hq => absurd (List.mem_map.mpr ⟨q, (othF_some hq).1, (othF_some hq).2.trans hpm⟩) hR), cnt', ev.at hlv (by simp), Paired.imp hlx fun _ _ z => z.ext ev Lsts.nil, ev.at hah (by simp), Paired.imp hax fun _ _ z => z.ext ev Lsts.nil, ev.at hsp (by simp), Paired.imp hps fun _ _ z => ev.tup Lsts.nil z, hlv', ev.at hM (by simp), ev.at hO (by simp), ev.tup Lsts.nil hrw, ev.at hU (by simp), e.trans ev⟩
          · rw [decide_eq_false hL]
            refine iteF (iteF ?_)
            have hR : m ∈ (mvs two it.2.2).map (·.1) := ((uo.mem m).mp (List.mem_of_getElem? hm)).resolve_left hL
            have oneT : oneOf (mvs one it.2.1) (mvs two it.2.2) m = true := by unfold oneOf; rw [decide_eq_false hL, decide_eq_true hR]; rfl
            have moreE : moreOf (mvs one it.2.1) (mvs two it.2.2) m = decide (m ∈ (mvs one it.2.1).map (·.1)) := by unfold moreOf; rw [decide_eq_false hL]; rfl
            have eL := least_new (one := one) (two := two) (Q := Q0 ++ R) (d := d0 + i) hm oneT
            refine ⟨_, rfl, _, rfl, or_in (K := K) (new := MoreAt one two (Q0 ++ R) (d0 + i) it U (j + 1)) (d := decide (m ∈ (mvs one it.2.1).map (·.1))) (by rw [more_step hm, moreE]) (fun Q' q' => ⟨_, rfl, _, rfl, D1, _, rfl, .inl (.of hM), rfl, flat_nV _, by rw [show (if false = true then !inV (nV m) (((mvs one it.2.1).map (·.1)).map nV) else inV (nV m) (((mvs one it.2.1).map (·.1)).map nV)) = decide (m ∈ (mvs one it.2.1).map (·.1)) from inV_nV m _]; exact q'⟩) ?_⟩
            refine ⟨fun v H' => OrV K H' v (LeastAt one two (Q0 ++ R) (d0 + i) it U (j + 1)) ∧ Ext [] Hc H', ?_, ?_⟩
            · refine ⟨_, rfl, rfl, _, rfl, ?_⟩
              rw [eL]
              rcases hle with ⟨hn, rfl⟩ | ⟨la, lr, hs, rfl, hl⟩
              · rw [hn]
                refine iteT ⟨_, rfl, _, rfl, (by show 1 ≤ sizeLine; decide), fun g2 hg2 => ?_⟩
                have e5 : Ext [] Hc (upd Hc g2 (.tup [nV m])) := .new hg2
                have rlen := pw.row it (List.mem_of_getElem? pw.here)
                refine ⟨r, g2, _, _, rfl, rfl, e5.tup Lsts.nil hrw, .of upd_same, ?_, fun h0 => ?_, fun _ h0 => (by cases h0), fun _ _ g3 hg3 => ?_⟩
                · rw [List.length_map]
                  show it.1.length + 1 ≤ sizeLine
                  exact Nat.le_of_lt (small1000 (by omega))
                · have h0 : it.1.map nV = [] := h0
                  refine ⟨.inr ⟨g2, it.1 ++ [m], rfl, rfl, ?_⟩, e5⟩
                  rw [List.map_append, h0]
                  exact .of upd_same
                · refine ⟨.inr ⟨g3, it.1 ++ [m], rfl, rfl, ?_⟩, e5.put2 hg3⟩
                  rw [List.map_append]
                  exact .of upd_same
              · rw [hs]
                exact iteF ⟨_, rfl, .inr ⟨la, lr, rfl, rfl, hl⟩, .refl⟩
            · rintro lv' He ⟨hlv', ev⟩
              exact ⟨R, k, axs, ps, lv', _, _, rfl, pw, cnt.skip hm hL, ev.at hlv (by simp), Paired.imp hlx fun _ _ z => z.ext ev Lsts.nil, ev.at hah (by simp), Paired.imp hax fun _ _ z => z.ext ev Lsts.nil, ev.at hsp (by simp), Paired.imp hps fun _ _ z => ev.tup Lsts.nil z, hlv', ev.at hM (by simp), ev.at hO (by simp), ev.tup Lsts.nil hrw, ev.at hU (by simp), e.trans ev⟩
        · rintro σ Hc ⟨R, k, axs, ps, least, y13, y14, rfl, pw, cnt, hlv, hlx, hah, hax, hsp, hps, hle, hM, hO, hrw, hU, e⟩
          rw [List.length_map] at cnt hle
          have em := more_all (one := one) (two := two) pw.here uo
          have el := least_all (one := one) (two := two) pw.here uo
          rw [el] at hle
          refine ⟨R, axs, ps, least, _, _, _, _, _, _, _, by rw [List.length_map, em]; rfl, pw.done (cnt.all inU), hlv, hlx, hah, hax, hsp, hps, hle, e⟩
      · rintro σ H' ⟨R, axs, ps, least, y8, y9, y10, y11, y12, y13, y14, rfl, pi, hlv, hlx, hah, hax, hsp, hps, hle, e⟩
        rw [llen] at pi hle
        have ed : d0 + (Q0.length - d0) = Q0.length := by omega
        rw [ed] at pi hle
        rw [llen, ed]
        refine ⟨_, rfl, Q0 ++ R, Q0.length, ah, axs, ps, least, _, _, _, _, _, _, _, _, _, rfl, pi, ?_, hah, ?_, hsp, hps, hle, ahH, spah.symm, e⟩
        · by_cases c : d0 = Q0.length
          · refine .inr ?_
            have e1 := pi.eq
            rw [← c, ← pi0.eq] at e1
            rw [e1]
          · refine .inl ?_
            have := td.resolve_right c
            omega
        · rw [List.drop_left]
          exact hax
    · rintro σ H' ⟨Q0, d0, lv, lxs, ps, least, y6, y7, y8, y9, y10, y11, y12, y13, y14, rfl, pi, td, hlv, hlx, hsp, hps, hle, lvH, lvsp, e⟩
      have most := pi.most
      have dle := pi.le
      have hd : d0 = Q0.length := by
        rcases td with h | h
        · omega
        · exact h
      have hm := (pi.met hd).1
      rw [hd, List.take_length, hm] at hle
      refine ⟨_, rfl, _, rfl, (by show 2 ≤ sizeLine; decide), fun tr htr => ?_⟩
      have ew : (Q0.take d0).any (fun e => !withinE one two e) = !withinP one two := by
        rw [hd, List.take_length, hm]
        unfold withinP
        rw [List.not_all_eq_any_not]
      rw [ew]
      exact q tr least _ (.of upd_same) (hle.ext (Ext.new (L := []) htr) Lsts.nil) (e.put2 htr)
end
end Nv
set_option Elab.async false
set_option linter.all false
set_option maxRecDepth 100000
namespace Nv
open PySem PySem.Spec PyProof.Rows L2
section
variable {P : Program} {w : World} {K : PySem.W.Frag} {mg : Str → Option Value} {base : Heap}
/-! ### the law's own count of unlike states -/
def UnL (K : PySem.W.Frag) (H : Hp) (a : Addr) (L : List (Nat × Nat)) : Prop := ∃ ps : List Addr, H a = some (.lst (ps.map V.ref)) ∧ Paired (MvV K H) ps L
theorem UnL.ext {K : PySem.W.Frag} {H H' : Hp} {Y : List Addr} {a : Addr} {L : List (Nat × Nat)} (h : UnL K H a L) (e : Ext Y H H') (l : Lsts Y H) (n : a ∉ Y) : UnL K H' a L := by
  obtain ⟨ps, h1, h2⟩ := h
  exact ⟨ps, e.at h1 n, Paired.imp h2 fun _ _ z => e.tup l z⟩
/-- a new pair behind the others -/
theorem UnL.snoc {K : PySem.W.Frag} {H : Hp} {a t : Addr} {L : List (Nat × Nat)} {s r : Nat} {acc : List V} (h : UnL K H a L) (ha : H a = some (.lst acc)) (ht : SqT K H t [.int s, .int r]) : UnL K (upd H a (.lst (acc ++ [.ref t]))) a (L ++ [(s, r)]) := by
  obtain ⟨ps, h1, h2⟩ := h
  rw [ha] at h1
  have e : acc = ps.map V.ref := by injection (Option.some.inj h1)
  subst e
  have mt : MvV K (upd H a (.lst (ps.map V.ref ++ [V.ref t]))) t (s, r) := MvV.put (m := (s, r)) ht ha
  have ml : Paired (MvV K (upd H a (.lst (ps.map V.ref ++ [V.ref t])))) ps L := Paired.imp h2 fun _ _ z => z.put ha
  exact ⟨ps ++ [t], by rw [upd_same, List.map_append]; rfl, Paired.snoc mt ml⟩
theorem UnL.len {K : PySem.W.Frag} {H : Hp} {a : Addr} {L : List (Nat × Nat)} {acc : List V} (h : UnL K H a L) (ha : H a = some (.lst acc)) : acc.length = L.length := by
  obtain ⟨ps, h1, h2⟩ := h
  rw [ha] at h1
  have e : acc = ps.map V.ref := by injection (Option.some.inj h1)
  rw [e, List.length_map, Paired.len h2]
theorem paired_app {α β : Type} {F : α → β → Prop} : ∀ {l₁ : List α} {l₂ : List β} {m₁ : List α} {m₂ : List β}, Paired F l₁ l₂ → Paired F m₁ m₂ → Paired F (l₁ ++ m₁) (l₂ ++ m₂)
  | _, _, _, _, .nil, h => h
  | _, _, _, _, .cons r t, h => .cons r (paired_app t h)
def SoV (H : Hp) (v : V) (s : State) : Prop := ∃ a, v = .ref a ∧ H a = some (.lst ((s.map (·.1)).map nV))
theorem SoV.ext {H H' : Hp} {Y : List Addr} {v : V} {s : State} (h : SoV H v s) (e : Ext Y H H') (n : ∀ a, v = .ref a → a ∉ Y) : SoV H' v s := by
  obtain ⟨a, rfl, h1⟩ := h
  exact ⟨a, rfl, e.at h1 (n a rfl)⟩
theorem iN_eqv (l m : List Nat) : PyData.eqv (.list ((iN l).map PyData.int)) (.list ((iN m).map PyData.int)) = decide (l = m) := by
  rw [PyData.eqv, ints_eqv]
  refine decide_eq_decide.mpr ⟨fun e => ?_, fun e => by rw [e]⟩
  have := congrArg (List.map Int.toNat) e
  unfold iN at this
  rw [List.map_map, List.map_map] at this
  have f : ∀ l : List Nat, l.map (Int.toNat ∘ fun n : Nat => (n : Int)) = l := fun l => by
    conv => rhs; rw [← List.map_id l]
    exact List.map_congr_left fun x _ => rfl
  rwa [f, f] at this
theorem sc_law_unlike_states : FnScope ["book", "size", "some", "unlike", "a", "turn", "more", "b", "state", "message", "to", "one", "two"] ["book"] (defScope s_law_unlike_states) := ⟨rfl, rfl, rfl, by decide +kernel, rfl, by decide +kernel, by decide +kernel⟩
def sp_law_unlike_states (K : PySem.W.Frag) : Sp := fun vs H Q _ => ∃ (v : V) (b c : Book) (f : Nat → Nat), vs = [v] ∧ BkV K H v b ∧ FormB b ∧ LstB b c f ∧ ∀ H', Ext [] H H' → Q (.int c.length) H'
theorem ok_law_unlike_states (T : Tx K mg) : FnOk P w K mg base CX0 1 T.law_unlike_states.f T.law_unlike_states.fd ["book"] (sp_law_unlike_states K) := by
  refine T.law_unlike_states.F.ok sc_law_unlike_states (fun vs H Q E h => ?_) (fun cdv A outer s H vs Q E hr h => ?_)
  · obtain ⟨v, b, c, f, rfl, _⟩ := h; rfl
  · obtain ⟨v, b, c, f, rfl, hb, fb, lst, q⟩ := h
    obtain ⟨a, ls, rfl, ha, hls⟩ := id hb
    have llen := Paired.len hls
    have h8 := fb.eight
    refine ⟨_, (pss_cons (ps_set (i := 1) sc_law_unlike_states.nd rfl (.inl rfl) (pe_callB call_len_seq (by rfl) T.n_len PySem.boot_len (pa_cons (pv 0) pa_nil)))
      (pss_cons (ps_asg (pe_tup (pa_cons (pe_lc (own := [("state", 8)]) rfl sc_law_unlike_states.nd (pi_tup (pv 0)) (blkOk_by (own := [("state", 8)]) (N := ["book", "size", "some", "unlike", "a", "turn", "more", "b", "state", "message", "to", "one", "two"]) (sc := defScope s_law_unlike_states) (by decide +kernel)) (fun _ _ _ _ _ => (pg_name (i := 8) sc_law_unlike_states.nd rfl (.inl rfl))) (fun _ _ _ _ _ => pts_nil) (fun _ _ _ _ _ => (pe_lc (own := [("message", 9), ("to", 10)]) rfl sc_law_unlike_states.nd (pi_tupK K (pv 8)) (blkOk_by (own := [("message", 9), ("to", 10)]) (by kernel_rfl)) (fun _ _ _ _ _ => (pg_tupK (n := 2) K rfl (pgs_cons (pg_name (i := 9) sc_law_unlike_states.nd rfl (.inl rfl)) (pgs_cons (pg_name (i := 10) sc_law_unlike_states.nd rfl (.inl rfl)) pgs_nil)))) (fun _ _ _ _ _ => pts_nil) (fun _ _ _ _ _ => (pv 9))))) (pa_cons (pe_lst pa_nil) pa_nil))) (pg_tup rfl (pgs_cons (pg_name (i := 2) sc_law_unlike_states.nd rfl (.inr rfl)) (pgs_cons (pg_name (i := 3) sc_law_unlike_states.nd rfl (.inr rfl)) pgs_nil))))
      (C8.pss_cut (ps_for PassesOwn.never rfl (pi_range1 (by rfl) T.n_range (pa_cons (pv 1) pa_nil)) (pg_name (i := 4) sc_law_unlike_states.nd rfl (.inr rfl))
        (pss_one (ps_expr (pe_bm PySem.F.plainAttrs_list PySem.F.slot_list_extend PySem.F.type_list_extend mt_extend (pv 3) (pa_cons (pe_lc (own := [("b", 7)]) rfl sc_law_unlike_states.nd (pi_range1 (by rfl) T.n_range (pa_cons (pv 1) pa_nil)) (blkOk_by (own := [("b", 7)]) (N := ["book", "size", "some", "unlike", "a", "turn", "more", "b", "state", "message", "to", "one", "two"]) (sc := defScope s_law_unlike_states) (by decide +kernel)) (fun _ _ _ _ _ => (pg_name (i := 7) sc_law_unlike_states.nd rfl (.inl rfl))) (fun _ _ _ _ _ => pts_one (pt_mid (pt_cmpR (op_neDK K hr.units) (pe_ix (ix_listK K) (pv 2) (pv 4) (fun _ _ => rfl)) (pe_ix (ix_listK K) (pv 2) (pv 7) (fun _ _ => rfl)) (nomark _)))) (fun _ _ _ _ _ => (pe_tup (pa_cons (pv 4) (pa_cons (pv 7) pa_nil))))) pa_nil)))))
      (C8.pss_cut (ps_for PassesOwn.never rfl (pi_range1 (by rfl) T.n_range (pa_cons (pv 1) pa_nil)) (pg_name (i := 5) sc_law_unlike_states.nd rfl (.inl rfl))
        (pss_cons (ps_set (i := 6) sc_law_unlike_states.nd rfl (.inl rfl) (pe_lst pa_nil))
        (C8.pss_cut (ps_for PassesOwn.never rfl (pi_range1 (by rfl) T.n_range (pa_cons (pv 1) pa_nil)) (pg_name (i := 4) sc_law_unlike_states.nd rfl (.inr rfl))
          (pss_one (ps_for PassesOwn.never rfl (pi_range1 (by rfl) T.n_range (pa_cons (pv 1) pa_nil)) (pg_name (i := 7) sc_law_unlike_states.nd rfl (.inl rfl))
            (pss_one (ps_if (PW.pt (pw_and (pt_cmpR (op_notInDK K (units65 hr)) (pe_tup (pa_cons (pv 4) (pa_cons (pv 7) pa_nil))) (pv 3) (by rfl)) (pw_and1 (pt_cmpR (op_neD (hr.units)) (pe_lc (own := [("one", 11), ("two", 12)]) rfl sc_law_unlike_states.nd (pi_zipAK K (by rfl) T.n_zip (pa_cons (pe_ix ix_tup (pv 0) (pv 4) (fun _ _ => rfl)) (pa_cons (pe_ix ix_tup (pv 0) (pv 7) (fun _ _ => rfl)) pa_nil))) (blkOk_by (own := [("one", 11), ("two", 12)]) (N := ["book", "size", "some", "unlike", "a", "turn", "more", "b", "state", "message", "to", "one", "two"]) (sc := defScope s_law_unlike_states) (by decide +kernel)) (fun _ _ _ _ _ => (pg_tupK (n := 2) K rfl (pgs_cons (pg_name (i := 11) sc_law_unlike_states.nd rfl (.inl rfl)) (pgs_cons (pg_name (i := 12) sc_law_unlike_states.nd rfl (.inl rfl)) pgs_nil)))) (fun _ _ _ _ _ => pts_one (pt_mid (pt_cmpR (op_inDK K (units65 hr)) (pe_tup (pa_cons (pe_ix (ix_tupK K) (pv 11) pe_int (fun _ _ => rfl)) (pa_cons (pe_ix (ix_tupK K) (pv 12) pe_int (fun _ _ => rfl)) pa_nil))) (pv 3) (by rfl)))) (fun _ _ _ _ _ => pe_int)) (pe_lst pa_nil) (nomark _)))))
              (pss_one (ps_expr (pe_bm PySem.F.plainAttrs_list PySem.F.slot_list_append PySem.F.type_list_append mt_append (pv 6) (pa_cons (pe_tup (pa_cons (pv 4) (pa_cons (pv 7) pa_nil))) pa_nil))))
              pss_nil)))))
        (pss_one (ps_set (i := 3) sc_law_unlike_states.nd rfl (.inr rfl) (pe_op op_cat (pv 3) (pv 6)))))))
      (pss_one (ps_ret (pe_callB call_len_seq (by rfl) T.n_len PySem.boot_len (pa_cons (pe_lc (own := [("a", 4)]) rfl sc_law_unlike_states.nd (pi_range1 (by rfl) T.n_range (pa_cons (pv 1) pa_nil)) (blkOk_by (own := [("a", 4)]) (N := ["book", "size", "some", "unlike", "a", "turn", "more", "b", "state", "message", "to", "one", "two"]) (sc := defScope s_law_unlike_states) (by decide +kernel)) (fun _ _ _ _ _ => (pg_name (i := 4) sc_law_unlike_states.nd rfl (.inr rfl))) (fun _ _ _ _ _ => pts_one (pt_mid (pt_cmpR (op_eqDK K hr.units) (pe_lc (own := [("b", 7)]) rfl sc_law_unlike_states.nd (pi_range1 (by rfl) T.n_range (pa_cons (pv 4) pa_nil)) (blkOk_by (own := [("b", 7)]) (by kernel_rfl)) (fun _ _ _ _ _ => (pg_name (i := 7) sc_law_unlike_states.nd rfl (.inl rfl))) (fun _ _ _ _ _ => pts_one (pt_mid (pt_cmpR (op_notInDK K (units65 hr)) (pe_tup (pa_cons (pv 4) (pa_cons (pv 7) pa_nil))) (pv 3) (by rfl)))) (fun _ _ _ _ _ => (pv 7))) (pe_lst pa_nil) (nomark _)))) (fun _ _ _ _ _ => (pv 4))) pa_nil)))))))), ?_⟩
    refine ⟨_, rfl, a, _, rfl, .inr ha, ?_⟩
    rw [llen]
    -- some, unlike
    refine ⟨_, rfl, a, rfl, ⟨_, ha⟩, fun so hso => ?_⟩
    refine lc_tup (K := K) (a := a) (xs := ls) (fun i H' => ∃ vs : List V, H' so = some (.lst vs) ∧ Paired (SoV H') vs (b.take i) ∧ (∀ v ∈ vs, v ≠ .ref so) ∧ Ext [] H H') ⟨[], upd_same, .nil, (fun _ z => nomatch z), .new hso⟩ (fun i H' _ ⟨_, _, _, _, z⟩ => z.tup Lsts.nil ha) ?_ ?_
    · rintro i v H' hv ⟨vs, hS, hpd, hne, e⟩
      obtain ⟨st, hst, g, ps, rfl, hg, hps⟩ := Paired.get' hls hv
      have hib : i < b.length := (List.getElem?_eq_some_iff.mp hst).1
      have five : st.length ≤ 5 := (fb.st st (List.mem_of_getElem? hst)).few
      have plen := Paired.len hps
      refine ⟨rfl, yes ?_⟩
      refine ⟨_, rfl, g, rfl, ⟨_, e.tup Lsts.nil hg.sq⟩, fun D hD => ?_⟩
      have sD : so ≠ D := ne_of_none hS hD
      refine lc_tup (K := K) (a := g) (xs := ps.map V.ref) (fun k H3 => H3 D = some (.lst (((st.take k).map (·.1)).map nV)) ∧ Ext [] H' H3) ⟨by simp; exact upd_same, .new hD⟩ (fun k H3 _ ⟨_, z⟩ => (e.trans z).tup Lsts.nil hg.sq) ?_ ?_
      · rintro k y H4 hy ⟨hX, e4⟩
        obtain ⟨gg, hgg, rfl⟩ := map_at hy
        obtain ⟨p, hp, hcp⟩ := Paired.get' hps hgg
        refine ⟨gg, _, rfl, hcp.ext0 (e.trans e4), rfl, _, _, rfl, _, _, rfl, rfl, rfl, yes ?_⟩
        refine ⟨_, rfl, _, hX, ?_, ?_, e4.put hD⟩
        · rw [List.length_map, List.length_map, List.length_take]
          exact small1000 (by omega)
        · rw [upd_same, List.take_add_one, hp, List.map_append, List.map_append]
          rfl
      · rintro H4 ⟨hX, e4⟩
        rw [List.length_map, plen, List.take_length] at hX
        refine ⟨vs, e4.at hS (by simp), ?_, vs ++ [.ref D], upd_same, ?_, ?_, (e.trans e4).put hso⟩
        · rw [Paired.len hpd, List.length_take]
          exact small1000 (by omega)
        · rw [List.take_add_one, hst]
          refine Paired.snoc ⟨D, rfl, by rw [upd_ne sD.symm]; exact hX⟩ ?_
          refine Paired.of_get (Paired.len hpd) fun i x t h1 h2 => ?_
          obtain ⟨s', e1', hs'⟩ := Paired.get' hpd h1
          rw [h2] at e1'
          cases e1'
          obtain ⟨a2, rfl, h3⟩ := hs'
          have : a2 ≠ so := fun z => hne _ (List.mem_of_getElem? h1) (by rw [z])
          exact ⟨a2, rfl, by rw [upd_ne this]; exact e4.at h3 (by simp)⟩
        · intro x hx
          rcases List.mem_append.mp hx with hx | hx
          · exact hne x hx
          · rw [List.mem_singleton.mp hx]
            exact fun z => sD (V.ref.inj z).symm
    rintro H1 ⟨vs, hS, hpd, hne, e1⟩
    rw [llen, List.take_length] at hpd
    refine ⟨Nat.zero_le _, fun ul hul => ⟨(by show 2 ≤ sizeLine; decide), fun tt htt => ?_⟩⟩
    have e2 : Ext [] H1 (upd (upd H1 ul (.lst [])) tt (.tup [.ref so, .ref ul])) := (Ext.new hul).trans (Ext.new htt)
    have hulH : H ul = none := e1.free hul
    have hU2 : UnL K (upd (upd H1 ul (.lst [])) tt (.tup [.ref so, .ref ul])) ul [] := ⟨[], (Ext.new (L := []) htt).at upd_same (by simp), .nil⟩
    have soul : so ≠ ul := ne_of_none hS hul
    refine ⟨tt, _, rfl, .of upd_same, rfl, _, _, rfl, _, _, rfl, rfl, ?_⟩
    have hS2 := e2.at hS (by simp)
    have hvs : ∀ v ∈ vs, ∀ x, v = .ref x → x ≠ ul := by
      intro v hv x hx
      obtain ⟨i, hi⟩ := List.mem_iff_getElem?.mp hv
      obtain ⟨st, _, a2, e3, h3⟩ := Paired.get' hpd hi
      rw [hx] at e3
      cases e3
      exact ne_of_none h3 hul
    have hpd2 : Paired (SoV (upd (upd H1 ul (.lst [])) tt (.tup [.ref so, .ref ul]))) vs b := Paired.imp hpd fun v s z => z.ext e2 fun _ _ => by simp
    have e3 := e1.trans e2
    clear e2 htt hul hpd hS e1 hso
    generalize upd (upd H1 ul (.lst [])) tt (.tup [.ref so, .ref ul]) = H2 at *
    -- different messages
    refine ⟨fun σ H' => ∃ (L : List (Nat × Nat)) (y4 y5 y6 y7 : Option V), σ = [some (.ref a), some (.int b.length), some (.ref so), some (.ref ul), y4, y5, y6, y7, none, none, none, none, none] ∧ UnL K H' ul L ∧ (∀ s t, (s, t) ∈ L ↔ s < b.length ∧ t < b.length ∧ unB b 0 s t = true) ∧ L.length ≤ 64 ∧ Ext [] H H', ?_, ?_⟩
    · refine ⟨_, rfl, _, rfl, by omega, by omega, ?_⟩
      rw [Int.toNat_natCast]
      refine for_range (lo := 0) (n := b.length) (fun i σ H' => ∃ (L : List (Nat × Nat)) (y4 y5 y6 y7 : Option V), σ = [some (.ref a), some (.int b.length), some (.ref so), some (.ref ul), y4, y5, y6, y7, none, none, none, none, none] ∧ UnL K H' ul L ∧ (∀ s t, (s, t) ∈ L ↔ s < i ∧ t < b.length ∧ unB b 0 s t = true) ∧ L.length ≤ 8 * i ∧ Ext [] H H' ∧ H' so = some (.lst vs) ∧ Paired (SoV H') vs b)
        ⟨[], _, _, _, _, rfl, hU2, fun s t => ⟨fun z => (nomatch z), fun z => absurd z.1 (Nat.not_lt_zero _)⟩, Nat.zero_le _, e3, hS2, hpd2⟩ ?_ ?_
      · rintro i σ H3 hi ⟨L, y4, y5, y6, y7, rfl, hU, hL, hLl, e, hS, hpd⟩
        simp only [Int.zero_add]
        obtain ⟨pu, hu1, hu2⟩ := id hU
        refine ⟨_, rfl, .inl ⟨rfl, _, .of hu1⟩, _, rfl, _, rfl, by omega, by omega, fun D hD => ?_⟩
        rw [Int.toNat_natCast]
        have ulD : ul ≠ D := ne_of_none hu1 hD
        obtain ⟨v1, hv1, d1, rfl, hd1⟩ := Paired.get hpd (mvs_lt hi)
        refine lc_range (lo := 0) (n := b.length) (fun m H' => ∃ M : List (Nat × Nat), UnL K H' D M ∧ (∀ s t, (s, t) ∈ M ↔ s = i ∧ t < m ∧ unB b 0 s t = true) ∧ M.length ≤ m ∧ Ext [] H3 H') ⟨[], ⟨[], upd_same, .nil⟩, fun s t => ⟨fun z => (nomatch z), fun z => absurd z.2.1 (Nat.not_lt_zero _)⟩, Nat.zero_le _, .new hD⟩ ?_ ?_
        · rintro m H4 hm ⟨M, hM, hMe, hMl, e4⟩
          simp only [Int.zero_add]
          obtain ⟨v2, hv2, d2, rfl, hd2⟩ := Paired.get hpd (mvs_lt hm)
          have hS4 := e4.at hS (by simp)
          have h1 := e4.at hd1 (by simp)
          have h2 := e4.at hd2 (by simp)
          rw [map_nV_iN] at h1 h2
          refine ⟨rfl, ?_⟩
          refine ⟨fun x H5 => H5 = H4 ∧ x = unB b 0 i m, ⟨_, rfl, _, rfl, so, _, _, _, rfl, rfl, .of hS4, atI_nat hv1, _, rfl, _, rfl, so, _, _, _, rfl, rfl, .of hS4, atI_nat hv2, _, _, .lst (.of h1) (dp_ints _), .lst (.of h2) (dp_ints _), shaped_ints _, shaped_ints _, _, rfl, rfl, ?_⟩, ?_⟩
          · rw [iN_eqv, unB_zero fb hi hm]
            by_cases c : (mvs b i).map (·.1) = (mvs b m).map (·.1) <;> simp [c]
          · rintro x H5 ⟨rfl, rfl⟩
            obtain ⟨pm, hm1, hm2⟩ := id hM
            cases hx : unB b 0 i m with
            | true =>
              refine iteT ⟨_, rfl, _, rfl, (by show 2 ≤ sizeLine; decide), fun t ht => ?_⟩
              have e5 : Ext [] H5 (upd H5 t (.tup [.int i, .int m])) := .new ht
              have hM5 := hM.ext e5 Lsts.nil (by simp)
              have hacc := e5.at hm1 (by simp)
              refine ⟨_, hacc, ?_, M ++ [(i, m)], hM5.snoc hacc (.of upd_same), fun s t => ?_, by rw [List.length_append]; show M.length + 1 ≤ m + 1; omega, (e4.trans e5).put hD⟩
              · rw [List.length_map, Paired.len hm2]
                exact small1000 (by omega)
              · rw [List.mem_append, hMe, List.mem_singleton, Prod.mk.injEq]
                constructor
                · rintro (⟨h1, h2, h3⟩ | ⟨rfl, rfl⟩)
                  · exact ⟨h1, by omega, h3⟩
                  · exact ⟨rfl, by omega, hx⟩
                · rintro ⟨h1, h2, h3⟩
                  by_cases c : t = m
                  · exact .inr ⟨h1, c⟩
                  · exact .inl ⟨h1, by omega, h3⟩
            | false =>
              refine iteF ⟨M, hM, fun s t => ?_, by omega, e4⟩
              rw [hMe]
              constructor
              · rintro ⟨h1, h2, h3⟩
                exact ⟨h1, by omega, h3⟩
              · rintro ⟨h1, h2, h3⟩
                refine ⟨h1, ?_, h3⟩
                by_cases c : t = m
                · rw [h1, c, hx] at h3
                  cases h3
                · omega
        · rintro H4 ⟨M, hM, hMe, hMl, e4⟩
          obtain ⟨pm, hm1, hm2⟩ := id hM
          have hu4 := e4.at hu1 (by simp)
          have hu24 : Paired (MvV K H4) pu L := Paired.imp hu2 fun _ _ z => e4.tup Lsts.nil z
          refine ⟨ul, D, _, _, rfl, rfl, hu4, hm1, ?_, ?_⟩
          · rw [List.length_map, List.length_map, Paired.len hu24, Paired.len hm2]
            exact Nat.le_of_lt (small1000 (by omega))
          have ew : Ext [ul] H4 (upd H4 ul (.lst (pu.map V.ref ++ pm.map V.ref))) := .wr (by simp)
          have lw := one_lst hu4
          have all : Paired (MvV K (upd H4 ul (.lst (pu.map V.ref ++ pm.map V.ref)))) (pu ++ pm) (L ++ M) := paired_app (Paired.imp hu24 fun _ _ z => ew.tup lw z) (Paired.imp hm2 fun _ _ z => ew.tup lw z)
          refine ⟨L ++ M, _, _, _, _, rfl, ⟨pu ++ pm, by rw [upd_same, List.map_append], all⟩, fun s t => ?_, by rw [List.length_append]; omega, (e.trans e4).put hulH, by rw [upd_ne soul]; exact e4.at hS (by simp), ?_⟩
          · rw [List.mem_append, hL, hMe]
            constructor
            · rintro (⟨h1, h2, h3⟩ | ⟨rfl, h2, h3⟩)
              · exact ⟨by omega, h2, h3⟩
              · exact ⟨by omega, h2, h3⟩
            · rintro ⟨h1, h2, h3⟩
              by_cases c : s = i
              · exact .inr ⟨c, h2, h3⟩
              · exact .inl ⟨by omega, h2, h3⟩
          · refine Paired.of_get (Paired.len hpd) fun j x st h1 h2 => ?_
            obtain ⟨s', e1', hs'⟩ := Paired.get' hpd h1
            rw [h2] at e1'
            cases e1'
            obtain ⟨a2, rfl, h3⟩ := hs'
            have : a2 ≠ ul := hvs _ (List.mem_of_getElem? h1) a2 rfl
            exact ⟨a2, rfl, by rw [upd_ne this]; exact e4.at h3 (by simp)⟩
      · rintro σ H3 ⟨L, y4, y5, y6, y7, rfl, hU, hL, hLl, e, hS, hpd⟩
        exact ⟨L, _, _, _, _, rfl, hU, hL, by omega, e⟩
    rintro σ H3 ⟨L0, y4, y5, y6, y7, rfl, hU, hL, hLl, e⟩
    clear hpd2 hS2 hU2 e3
    refine ⟨fun σ H' => ∃ (ul : Addr) (L : List (Nat × Nat)) (y4 y5 y6 y7 : Option V), σ = [some (.ref a), some (.int b.length), some (.ref so), some (.ref ul), y4, y5, y6, y7, none, none, none, none, none] ∧ UnL K H' ul L ∧ (∀ s t, (s, t) ∈ L ↔ s < b.length ∧ t < b.length ∧ unB b b.length s t = true) ∧ Ext [] H H', ?_, ?_⟩
    · refine ⟨_, rfl, _, rfl, by omega, by omega, ?_⟩
      rw [Int.toNat_natCast]
      refine for_range (lo := 0) (n := b.length) (fun t σ H' => ∃ (ul : Addr) (L : List (Nat × Nat)) (y4 y5 y6 y7 : Option V), σ = [some (.ref a), some (.int b.length), some (.ref so), some (.ref ul), y4, y5, y6, y7, none, none, none, none, none] ∧ UnL K H' ul L ∧ (∀ s r, (s, r) ∈ L ↔ s < b.length ∧ r < b.length ∧ unB b t s r = true) ∧ L.length ≤ 64 * (t + 1) ∧ Ext [] H H')
        ⟨ul, L0, _, _, _, _, rfl, hU, hL, by omega, e⟩ ?_ ?_
      · rintro t σ H4 ht ⟨ul, L, y4, y5, y6, y7, rfl, hU, hL, hLl, e⟩
        simp only [Int.zero_add]
        -- more = []
        refine ⟨Nat.zero_le _, fun mo hmo => ?_⟩
        have e4 : Ext [] H4 (upd H4 mo (.lst [])) := .new hmo
        have hM0 : UnL K (upd H4 mo (.lst [])) mo [] := ⟨[], upd_same, .nil⟩
        have hmoH : H mo = none := e.free hmo
        have ulmo : ul ≠ mo := by
          obtain ⟨pu, hu1, _⟩ := hU
          exact ne_of_none hu1 hmo
        have hU4 := hU.ext e4 Lsts.nil (by simp)
        have ee := e.trans e4
        clear hU e4 hmo e
        generalize upd H4 mo (.lst []) = H5 at *
        refine ⟨fun σ H' => ∃ (M : List (Nat × Nat)) (y4 y7 : Option V), σ = [some (.ref a), some (.int b.length), some (.ref so), some (.ref ul), y4, some (.int t), some (.ref mo), y7, none, none, none, none, none] ∧ UnL K H' mo M ∧ (∀ s r, (s, r) ∈ M ↔ s < b.length ∧ r < b.length ∧ unB b t s r = false ∧ unB b (t + 1) s r = true) ∧ M.length ≤ 64 ∧ UnL K H' ul L ∧ Ext [] H H', ?_, ?_⟩
        · refine ⟨_, rfl, _, rfl, by omega, by omega, ?_⟩
          rw [Int.toNat_natCast]
          refine for_range (lo := 0) (n := b.length) (fun i σ H' => ∃ (M : List (Nat × Nat)) (y4 y7 : Option V), σ = [some (.ref a), some (.int b.length), some (.ref so), some (.ref ul), y4, some (.int t), some (.ref mo), y7, none, none, none, none, none] ∧ UnL K H' mo M ∧ (∀ s r, (s, r) ∈ M ↔ s < i ∧ r < b.length ∧ unB b t s r = false ∧ unB b (t + 1) s r = true) ∧ M.length ≤ 8 * i ∧ UnL K H' ul L ∧ Ext [] H H')
            ⟨[], _, _, rfl, hM0, fun s r => ⟨fun z => (nomatch z), fun z => absurd z.1 (Nat.not_lt_zero _)⟩, Nat.zero_le _, hU4, ee⟩ ?_ ?_
          · rintro i σ H6 hi ⟨M, y4, y7, rfl, hM, hMe, hMl, hU, e⟩
            simp only [Int.zero_add]
            refine ⟨_, rfl, _, rfl, by omega, by omega, ?_⟩
            rw [Int.toNat_natCast]
            refine for_range (lo := 0) (n := b.length) (fun j σ H' => ∃ (M : List (Nat × Nat)) (y7 : Option V), σ = [some (.ref a), some (.int b.length), some (.ref so), some (.ref ul), some (.int i), some (.int t), some (.ref mo), y7, none, none, none, none, none] ∧ UnL K H' mo M ∧ (∀ s r, (s, r) ∈ M ↔ (s < i ∨ (s = i ∧ r < j)) ∧ r < b.length ∧ unB b t s r = false ∧ unB b (t + 1) s r = true) ∧ M.length ≤ 8 * i + j ∧ UnL K H' ul L ∧ Ext [] H H')
              ⟨M, _, rfl, hM, fun s r => by rw [hMe]; exact ⟨fun ⟨h1, h2⟩ => ⟨.inl h1, h2⟩, fun ⟨h1, h2⟩ => ⟨h1.resolve_right fun z => absurd z.2 (Nat.not_lt_zero _), h2⟩⟩, by omega, hU, e⟩ ?_ ?_
            · rintro j σ H7 hj ⟨M, y7, rfl, hM, hMe, hMl, hU, e⟩
              simp only [Int.zero_add]
              obtain ⟨pu, hu1, hu2⟩ := id hU
              -- (a, b) not in unlike
              refine ⟨_, rfl, _, rfl, (by show 2 ≤ sizeLine; decide), fun t1 ht1 => ?_⟩
              have e7 : Ext [] H7 (upd H7 t1 (.tup [.int i, .int j])) := .new ht1
              have hu17 := e7.at hu1 (by simp)
              have hu27 : Paired (MvV K (upd H7 t1 (.tup [.int i, .int j]))) pu L := Paired.imp hu2 fun _ _ z => e7.tup Lsts.nil z
              have hM7 := hM.ext e7 Lsts.nil (by simp)
              have hU7 := hU.ext e7 Lsts.nil (by simp)
              have ee7 := e.trans e7
              have htt : SqT K (upd H7 t1 (.tup [.int i, .int j])) t1 [.int i, .int j] := .of upd_same
              clear hM hU hu1 hu2 e7 ht1 e
              generalize upd H7 t1 (.tup [.int i, .int j]) = H8 at *
              refine ⟨_, rfl, mvD (i, j), L.map mvD, .tup htt (.cons (.int _) (.cons (.int _) .nil)), .lst (.of hu17) (dp_mvs hu27), shaped_mvD _, shaped_mvs _, _, rfl, ?_⟩
              rw [any_mvD]
              have eL : decide ((i, j) ∈ L) = unB b t i j := by
                rw [Bool.eq_iff_iff, decide_eq_true_eq, hL]
                exact ⟨fun z => z.2.2, fun z => ⟨hi, hj, z⟩⟩
              rw [eL]
              have us := unB_step fb t hi hj
              have noNew : (unB b t i j = true ∨ unB b (t + 1) i j = false) → ∀ s r, (s, r) ∈ M ↔ (s < i ∨ (s = i ∧ r < j + 1)) ∧ r < b.length ∧ unB b t s r = false ∧ unB b (t + 1) s r = true := by
                intro hno s r
                rw [hMe]
                constructor
                · rintro ⟨h1, h2⟩
                  exact ⟨h1.imp id fun z => ⟨z.1, by omega⟩, h2⟩
                · rintro ⟨h1, h2, h3, h4⟩
                  refine ⟨?_, h2, h3, h4⟩
                  rcases h1 with h1 | ⟨rfl, h1⟩
                  · exact .inl h1
                  · by_cases c : r = j
                    · subst c
                      rcases hno with z | z
                      · rw [z] at h3; cases h3
                      · rw [z] at h4; cases h4
                    · exact .inr ⟨rfl, by omega⟩
              cases hu : unB b t i j with
              | true => exact iteF (iteF ⟨M, _, rfl, hM7, noNew (.inl hu), by omega, hU7, ee7⟩)
              | false =>
                refine iteT ?_
                rw [hu, Bool.false_or] at us
                obtain ⟨u1, hv1, c1, ps1, rfl, hc1, hps1⟩ := Paired.get hls (mvs_lt hi)
                obtain ⟨u2, hv2, c2, ps2, rfl, hc2, hps2⟩ := Paired.get hls (mvs_lt hj)
                have f1 := (fb.ok hi).few
                have f2 := (fb.ok hj).few
                have pl1 := Paired.len hps1
                have pl2 := Paired.len hps2
                -- the pairs of moves
                refine ⟨_, rfl, _, rfl, a, _, _, _, rfl, rfl, ee7.tup Lsts.nil ha, atI_nat hv1, _, rfl, _, rfl, a, _, _, _, rfl, rfl, ee7.tup Lsts.nil ha, atI_nat hv2, c1, c2, _, _, rfl, .inr ⟨ee7.tup Lsts.nil hc1.sq, ee7.tup Lsts.nil hc2.sq, fun D hD => ?_⟩⟩
                refine lc_it (walk_zipT (K := K) (a := c1) (b := c2) (xs := ps1.map V.ref) (ys := ps2.map V.ref) (n := min (ps1.map V.ref).length (ps2.map V.ref).length) rfl) (fun k H' => H' D = some (.lst ((List.replicate ((((mvs b i).zip (mvs b j)).take k).filter fun pq => unB b t pq.1.2 pq.2.2).length (1 : Int)).map V.int)) ∧ Ext [] H8 H') ⟨upd_same, .new hD⟩ (fun k H' _ ⟨_, z⟩ => ⟨(ee7.trans z).tup Lsts.nil hc1.sq, (ee7.trans z).tup Lsts.nil hc2.sq⟩) ?_ ?_
                · rintro k v Hd H' hk ⟨hX, e8⟩ ⟨T', x', y', rfl, hT, rfl, hx', hy'⟩
                  obtain ⟨g1, hg1, rfl⟩ := map_at (show (ps1.map V.ref)[k]? = some x' from hx')
                  obtain ⟨g2, hg2, rfl⟩ := map_at (show (ps2.map V.ref)[k]? = some y' from hy')
                  obtain ⟨p, hp, hcp⟩ := Paired.get' hps1 hg1
                  obtain ⟨q2, hq, hcq⟩ := Paired.get' hps2 hg2
                  have hz : ((mvs b i).zip (mvs b j))[k]? = some (p, q2) := List.getElem?_zip_eq_some.mpr ⟨hp, hq⟩
                  have hk5 : k < 5 := by have := (List.getElem?_eq_some_iff.mp hp).1; omega
                  have e9 := e8.put2 (o := .tup [.ref g1, .ref g2]) hT
                  have hD7 : upd Hd T' (.tup [.ref g1, .ref g2]) D = _ := (upd_ne (ne_of_none hX hT)).trans hX
                  have hcp9 := hcp.ext0 (ee7.trans e9)
                  have hcq9 := hcq.ext0 (ee7.trans e9)
                  have hu19 := e9.at hu17 (by simp)
                  have hu29 : Paired (MvV K (upd Hd T' (.tup [.ref g1, .ref g2]))) pu L := Paired.imp hu27 fun _ _ z => e9.tup Lsts.nil z
                  have hTT : SqT K (upd Hd T' (.tup [.ref g1, .ref g2])) T' [.ref g1, .ref g2] := .of upd_same
                  generalize upd Hd T' (.tup [.ref g1, .ref g2]) = He at *
                  refine ⟨T', _, rfl, hTT, rfl, _, _, rfl, _, _, rfl, rfl, rfl, ?_⟩
                  have hnl := List.length_filter_le (fun pq : (Nat × Nat) × (Nat × Nat) => unB b t pq.1.2 pq.2.2) (((mvs b i).zip (mvs b j)).take k)
                  rw [List.length_take] at hnl
                  refine ⟨fun x H3 => x = unB b t p.2 q2.2 ∧ Ext [] He H3, ⟨_, rfl, g1, _, 1, _, rfl, rfl, hcp9, atI_nat (j := 1) rfl, _, rfl, g2, _, 1, _, rfl, rfl, hcq9, atI_nat (j := 1) rfl, (by show 2 ≤ sizeLine; decide), fun t2 ht2 => ⟨_, rfl, mvD (p.2, q2.2), L.map mvD, .tup (.of upd_same) (.cons (.int _) (.cons (.int _) .nil)), .lst (.of ((Ext.new (L := []) ht2).at hu19 (by simp))) (dp_mvs (Paired.imp hu29 fun _ _ z => MvV.ext0 z (Ext.new ht2))), shaped_mvD _, shaped_mvs _, _, rfl, ?_, Ext.new ht2⟩⟩, ?_⟩
                  · rw [any_mvD, Bool.eq_iff_iff, decide_eq_true_eq, hL]
                    exact ⟨fun z => z.2.2, fun z => ⟨fb.to (List.mem_of_getElem? hp), fb.to (List.mem_of_getElem? hq), z⟩⟩
                  · rintro x H3 ⟨rfl, ex⟩
                    refine ifB (fun hf => ?_) (fun hf => ?_)
                    · refine ⟨_, ex.at hD7 (by simp), ?_, ?_, (e9.trans ex).put hD⟩
                      · rw [List.length_map, List.length_replicate]
                        exact small1000 (by omega)
                      · rw [upd_same, filter_take _ hz]
                        have : (if (fun pq : (Nat × Nat) × (Nat × Nat) => unB b t pq.1.2 pq.2.2) (p, q2) = true then [(p, q2)] else []) = [(p, q2)] := if_pos hf
                        rw [this, List.length_append, List.length_singleton, List.replicate_succ', List.map_append]
                        rfl
                    · refine ⟨?_, e9.trans ex⟩
                      rw [ex.at hD7 (by simp), filter_take _ hz]
                      have : (if (fun pq : (Nat × Nat) × (Nat × Nat) => unB b t pq.1.2 pq.2.2) (p, q2) = true then [(p, q2)] else []) = [] := if_neg (by rw [show (fun pq : (Nat × Nat) × (Nat × Nat) => unB b t pq.1.2 pq.2.2) (p, q2) = false from hf]; simp)
                      rw [this, List.append_nil]
                · rintro Hd ⟨hX, e8⟩
                  rw [List.take_of_length_le (by rw [List.length_zip, List.length_map, List.length_map, pl1, pl2]; exact Nat.le_refl _)] at hX
                  refine ⟨Nat.zero_le _, fun z hz => ?_⟩
                  have e9 : Ext [] Hd (upd Hd z (.lst [])) := .new hz
                  have hXz := e9.at hX (by simp)
                  refine ⟨_, _, .lst (.of hXz) (dp_ints _), .lst (.of upd_same) .nil, shaped_ints _, by decide, _, rfl, ?_⟩
                  rw [eqv_nil]
                  have e89 := e8.trans e9
                  have hM9 := hM7.ext e89 Lsts.nil (by simp)
                  have hU9 := hU7.ext e89 Lsts.nil (by simp)
                  have hany : (!decide (List.replicate (((mvs b i).zip (mvs b j)).filter fun pq => unB b t pq.1.2 pq.2.2).length (1 : Int) = [])) = unB b (t + 1) i j := by
                    rw [us]
                    cases hc : ((mvs b i).zip (mvs b j)).filter fun pq => unB b t pq.1.2 pq.2.2 with
                    | nil =>
                      have : ((mvs b i).zip (mvs b j)).any (fun pq => unB b t pq.1.2 pq.2.2) = false := by
                        rw [List.any_eq_false]
                        exact fun x hx => List.filter_eq_nil_iff.mp hc x hx
                      rw [this]
                      rfl
                    | cons x r =>
                      have hx : x ∈ ((mvs b i).zip (mvs b j)).filter fun pq => unB b t pq.1.2 pq.2.2 := by rw [hc]; exact List.mem_cons_self ..
                      have : ((mvs b i).zip (mvs b j)).any (fun pq => unB b t pq.1.2 pq.2.2) = true := List.any_eq_true.mpr ⟨x, (List.mem_filter.mp hx).1, (List.mem_filter.mp hx).2⟩
                      rw [this, List.length_cons, List.replicate_succ]
                      simp
                  rw [hany]
                  cases hv : unB b (t + 1) i j with
                  | false => exact iteF ⟨M, _, rfl, hM9, noNew (.inr hv), by omega, hU9, ee7.trans e89⟩
                  | true =>
                    obtain ⟨pm, hm1, hm2⟩ := id hM9
                    refine iteT ⟨_, rfl, .inl ⟨rfl, _, .of hm1⟩, _, rfl, _, rfl, (by show 2 ≤ sizeLine; decide), fun t4 ht4 => ?_⟩
                    have ex : Ext [] (upd Hd z (.lst [])) (upd (upd Hd z (.lst [])) t4 (.tup [.int i, .int j])) := .new ht4
                    have hMx := hM9.ext ex Lsts.nil (by simp)
                    have hmx := ex.at hm1 (by simp)
                    have lm := one_lst hmx
                    refine ⟨mo, _, _, rfl, rfl, hmx, ?_, M ++ [(i, j)], _, rfl, hMx.snoc hmx (.of upd_same), fun s r => ?_, by rw [List.length_append]; show M.length + 1 ≤ _; omega, (hU9.ext ex Lsts.nil (by simp)).ext (Ext.wr (L := [mo]) (by simp)) lm (by simpa using ulmo), ((ee7.trans e89).trans ex).put hmoH⟩
                    · rw [List.length_map, Paired.len hm2]
                      exact small1000 (by omega)
                    · rw [List.mem_append, hMe, List.mem_singleton, Prod.mk.injEq]
                      constructor
                      · rintro (⟨h1, h2⟩ | ⟨rfl, rfl⟩)
                        · exact ⟨h1.imp id fun z => ⟨z.1, by omega⟩, h2⟩
                        · exact ⟨.inr ⟨rfl, by omega⟩, hj, hu, hv⟩
                      · rintro ⟨h1, h2⟩
                        by_cases c : s = i ∧ r = j
                        · exact .inr c
                        · refine .inl ⟨?_, h2⟩
                          rcases h1 with h1 | ⟨h1, h3⟩
                          · exact .inl h1
                          · refine .inr ⟨h1, ?_⟩
                            by_cases c2 : r = j
                            · exact absurd ⟨h1, c2⟩ c
                            · omega
            · rintro σ H7 ⟨M, y7, rfl, hM, hMe, hMl, hU, e⟩
              refine ⟨M, _, _, rfl, hM, fun s r => ?_, by omega, hU, e⟩
              rw [hMe]
              constructor
              · rintro ⟨h1, h2⟩
                exact ⟨by omega, h2⟩
              · rintro ⟨h1, h2⟩
                refine ⟨?_, h2⟩
                have := h2.1
                omega
          · rintro σ H6 ⟨M, y4, y7, rfl, hM, hMe, hMl, hU, e⟩
            exact ⟨M, _, _, rfl, hM, hMe, by omega, hU, e⟩
        · rintro σ H6 ⟨M, y4, y7, rfl, hM, hMe, hMl, hU, e⟩
          -- unlike + more
          obtain ⟨pu, hu1, hu2⟩ := id hU
          obtain ⟨pm, hm1, hm2⟩ := id hM
          refine ⟨_, rfl, _, rfl, ul, mo, _, _, rfl, rfl, hu1, hm1, ?_, fun nu hnu => ?_⟩
          · rw [List.length_map, List.length_map, Paired.len hu2, Paired.len hm2]
            exact Nat.le_of_lt (small1000 (by omega))
          have en : Ext [] H6 (upd H6 nu (.lst (pu.map V.ref ++ pm.map V.ref))) := .new hnu
          have all : Paired (MvV K (upd H6 nu (.lst (pu.map V.ref ++ pm.map V.ref)))) (pu ++ pm) (L ++ M) := paired_app (Paired.imp hu2 fun _ _ z => en.tup Lsts.nil z) (Paired.imp hm2 fun _ _ z => en.tup Lsts.nil z)
          refine ⟨nu, L ++ M, _, _, _, _, rfl, ⟨pu ++ pm, by rw [upd_same, List.map_append], all⟩, fun s r => ?_, by rw [List.length_append]; omega, e.trans en⟩
          rw [List.mem_append, hL, hMe]
          constructor
          · rintro (⟨h1, h2, h3⟩ | ⟨h1, h2, h3, h4⟩)
            · exact ⟨h1, h2, by rw [unB_step fb t h1 h2, h3, Bool.true_or]⟩
            · exact ⟨h1, h2, h4⟩
          · rintro ⟨h1, h2, h3⟩
            cases c : unB b t s r with
            | true => exact .inl ⟨h1, h2, rfl⟩
            | false => exact .inr ⟨h1, h2, rfl, h3⟩
      · rintro σ H4 ⟨ul, L, y4, y5, y6, y7, rfl, hU, hL, hLl, e⟩
        exact ⟨ul, L, _, _, _, _, rfl, hU, hL, e⟩
    · rintro σ H4 ⟨ul, L, y4, y5, y6, y7, rfl, hU, hL, e⟩
      obtain ⟨pu, hu1, hu2⟩ := id hU
      have eL : ∀ {s r : Nat}, s < b.length → r < b.length → decide ((s, r) ∈ L) = decide (f s ≠ f r) := fun {s r} hs hr' => by
        rw [← unB_last fb lst hs hr', Bool.eq_iff_iff, decide_eq_true_eq, hL]
        exact ⟨fun z => z.2.2, fun z => ⟨hs, hr', z⟩⟩
      refine ⟨_, rfl, _, rfl, by omega, by omega, fun D hD => ?_⟩
      rw [Int.toNat_natCast]
      refine filt_range (fun x => !((List.range x).any fun s => decide (f s = f x))) hD (by omega) (fun v => rfl) (fun v => rfl) (fun k H' hk e5 => ?_) (fun H' h e5 => ?_)
      · refine ⟨_, rfl, _, rfl, by omega, by omega, fun D2 hD2 => ?_⟩
        rw [Int.toNat_natCast]
        refine filt_range (fun s => !decide ((k, s) ∈ L)) hD2 (by omega) (fun v => rfl) (fun v => rfl) (fun r H5 hr' e6 => ?_) (fun H5 h6 e6 => ?_)
        · refine ⟨_, rfl, _, rfl, (by show 2 ≤ sizeLine; decide), fun t1 ht1 => ⟨_, rfl, mvD (k, r), L.map mvD, .tup (.of upd_same) (.cons (.int _) (.cons (.int _) .nil)), .lst (.of (((e5.trans e6).trans (Ext.new ht1)).at hu1 (by simp))) (dp_mvs (Paired.imp hu2 fun _ _ z => MvV.ext0 z ((e5.trans e6).trans (Ext.new ht1)))), shaped_mvD _, shaped_mvs _, _, rfl, ?_, Ext.new ht1⟩⟩
          rw [any_mvD]
        · refine ⟨Nat.zero_le _, fun z hz => ?_⟩
          have e7 : Ext [] H5 (upd H5 z (.lst [])) := .new hz
          have h7 := e7.at h6 (by simp)
          rw [map_nV_iN] at h7
          refine ⟨_, _, .lst (.of h7) (dp_ints _), .lst (.of upd_same) .nil, shaped_ints _, by decide, _, rfl, ?_, e6.trans e7⟩
          rw [eqv_nil, Bool.eq_iff_iff, decide_eq_true_eq, Bool.not_eq_true', List.any_eq_false]
          unfold iN
          rw [List.map_eq_nil_iff, List.filter_eq_nil_iff]
          refine forall_congr' fun s => forall_congr' fun hs => ?_
          have hs' := List.mem_range.mp hs
          rw [eL hk (by omega)]
          by_cases c : f s = f k
          · simp [c]
          · simp [c, Ne.symm c]
      · refine ⟨D, _, rfl, .inl (.of h), ?_⟩
        have := count_least fb lst
        rw [List.length_map, this]
        exact q _ (e.trans e5)
end
end Nv
set_option Elab.async false
set_option linter.all false
set_option maxRecDepth 100000
namespace Nv
open PySem PySem.Spec PyProof.Rows L2
section
variable {P : Program} {w : World} {K : PySem.W.Frag} {mg : Str → Option Value} {base : Heap}
/-! ### least books, and two books, asked -/
theorem sh_mv {n : Nat} {q : Nat × Nat} (h1 : q.1 ≤ 99) (h2 : q.2 < n) (h8 : n ≤ 8) : Sh (mvD q) 1 2 := Sh.tup (ShL.cons (n := 0) (m := 1) (Sh.nat h1) (ShL.cons (n := 0) (m := 0) (Sh.nat (n := q.2) (by omega)) ShL.nil))
theorem sh_st {n : Nat} {s : State} (h : StOk n s) (h8 : n ≤ 8) : Sh (stD s) 2 15 :=
  Sh.tup ((ShL.map (k := 1) (n := 2) fun q hq => sh_mv (h.msg q hq) (h.to q hq) h8).mono (Nat.le_refl _) (by have := h.few; omega))
theorem sh_book {b : Book} (fb : FormB b) : Sh (bookD b) 3 128 :=
  Sh.tup ((ShL.map (k := 2) (n := 15) fun s hs => sh_st (fb.st s hs) fb.eight).mono (Nat.le_refl _) (by have := fb.eight; omega))
theorem show_book {b : Book} (fb : FormB b) : ShowOk (bookD b) := (sh_book fb).ok (by decide) (by decide)
theorem FnG.okx : True := trivial
theorem sc_law_least_right : FnScope ["book", "told"] ["book"] (defScope s_law_least_right) := ⟨rfl, rfl, rfl, by decide +kernel, rfl, by decide +kernel, by decide +kernel⟩
def sp_law_least_right (K : PySem.W.Frag) : Sp := fun vs H Q _ => ∃ (v : V) (b : Book), vs = [v] ∧ BkV K H v b ∧ OkB b ∧ ∀ H', Ext [] H H' → Q (.bl true) H'
theorem ok_law_least_right (T : Tx K mg) : FnG P w K mg base CX0 8 T.law_least_right.f T.law_least_right.fd ["book"] (sp_law_least_right K) := by
  refine FunG.ok T.law_least_right.F sc_law_least_right (fun vs H Q E h => ?_) (fun cdv A outer s H vs Q E hG hr h => ?_)
  · obtain ⟨v, b, rfl, _⟩ := h; rfl
  · obtain ⟨v, b, rfl, hb, ok, q⟩ := h
    have fb := ok.toFormB
    refine ⟨_, (pss_cons (ps_set (i := 1) sc_law_least_right.nd rfl (.inl rfl) (pe_call (okM_least_book T) (hr.mono (by decide)) (by rfl) T.least_book.g T.least_book.F.kp T.least_book.b .nil pass0 (pa_cons (pv 0) pa_nil)))
      (pss_cons (ps_if (PW.pt (pw_or (pt_cmpR op_notBl (pe_call (ok_is_book T) (hr.mono (by decide)) (by rfl) T.is_book.g T.is_book.F.kp T.is_book.b .nil pass0 (pa_cons (pv 1) pa_nil)) pe_bl (nomark _)) (pw_or (pt_cmpR op_ne (pe_callB call_len_seq (by rfl) T.n_len PySem.boot_len (pa_cons (pv 1) pa_nil)) (pe_call (ok_law_unlike_states T) (hr.mono (by decide)) (by rfl) T.law_unlike_states.g T.law_unlike_states.F.kp T.law_unlike_states.b .nil pass0 (pa_cons (pv 0) pa_nil)) (nomark _)) (pw_or1 (pt_cmpR (op_neD (hr.units)) (pe_call (ok_law_apart T) (hr.mono (by decide)) (by rfl) T.law_apart.g T.law_apart.F.kp T.law_apart.b .nil pass0 (pa_cons (pv 0) (pa_cons (pv 1) pa_nil))) (pe_tup (pa_cons pe_non (pa_cons pe_bl pa_nil))) (nomark _))))))
        (pss_one (ps_ret pe_bl))
        pss_nil)
      (pss_one (ps_ret (pe_and (pe_cmpR op_eq (pe_callB (call_reprA hr.units hG) (by rfl) T.n_repr (by decide +kernel) (pa_cons (pe_call (ok_trimmed T) (hr.mono (by decide)) (by rfl) T.trimmed.g T.trimmed.F.kp T.trimmed.b .nil pass0 (pa_cons (pv 1) pa_nil)) pa_nil)) (pe_callB (call_reprA hr.units hG) (by rfl) T.n_repr (by decide +kernel) (pa_cons (pv 1) pa_nil)) (nomark _)) (pe_one (pe_cmpR op_eq (pe_callB (call_reprA hr.units hG) (by rfl) T.n_repr (by decide +kernel) (pa_cons (pe_call (okM_least_book T) (hr.mono (by decide)) (by rfl) T.least_book.g T.least_book.F.kp T.least_book.b .nil pass0 (pa_cons (pv 1) pa_nil)) pa_nil)) (pe_callB (call_reprA hr.units hG) (by rfl) T.n_repr (by decide +kernel) (pa_cons (pv 1) pa_nil)) (nomark _)))))))), ?_⟩
    refine ⟨_, rfl, v, b, rfl, hb, ok, fun c f u H1 lst hc e1 => ?_⟩
    have oc := lst.ok
    have fc := oc.toFormB
    have hp : partP b c = none := bis_part fb fc (lst.hom.graph fb) ⟨fb.one, lst.hom.zero.symm⟩
    have hw := within_of_part fb fc hp
    -- is_book
    refine ⟨_, rfl, u, c, rfl, hc, oc, fun H2 e2 => ⟨true, true, rfl, rfl, _, rfl, iteF ?_⟩⟩
    have hc2 := hc.ext0 e2
    obtain ⟨a, ls, rfl, ha, hls⟩ := id hc2
    have llen := Paired.len hls
    -- the count
    refine ⟨_, rfl, a, _, rfl, .inr ha, _, rfl, v, b, c, f, rfl, hb.ext0 (e1.trans e2), fb, lst, fun H3 e3 => ⟨rfl, _, rfl, ?_⟩⟩
    rw [llen, dec_int, decide_eq_true rfl]
    refine iteF ?_
    -- apart
    refine ⟨_, rfl, _, rfl, v, .ref a, b, c, rfl, hb.ext0 ((e1.trans e2).trans e3), fb, hc2.ext0 e3, fc, fun t x H4 ht hx e4 => ⟨(by show 2 ≤ sizeLine; decide), fun t2 ht2 => ?_⟩⟩
    have e5 : Ext [] H4 (upd H4 t2 (.tup [.non, .bl false])) := .new ht2
    have hxn : x = .non := by
      rcases hx with ⟨_, h⟩ | ⟨_, _, h, _⟩
      · exact h
      · rw [hp] at h; cases h
    subst hxn
    rw [hw] at ht
    refine ⟨.tuple [.none, .bool false], .tuple [.none, .bool false], .tup (e5.tup Lsts.nil ht) (.cons .non (.cons (.bl _) .nil)), .tup (.of upd_same) (.cons .non (.cons (.bl _) .nil)), by decide, by decide, _, rfl, iteF ?_⟩
    have e25 := (e3.trans e4).trans e5
    have hc5 := hc2.ext0 e25
    generalize upd H4 t2 (.tup [.non, .bl false]) = H5 at *
    have eAll := (e1.trans e2).trans e25
    -- trimmed
    refine ⟨_, rfl, .ref a, c, rfl, hc5.wk, fc, fun v6 H6 h6 e6 => ?_⟩
    rw [ren_id fc lst.ord] at h6
    refine ⟨_, bookD c, rfl, h6.wk.dp, show_book fc, ?_⟩
    refine ⟨_, rfl, _, bookD c, rfl, (hc5.ext0 e6).wk.dp, show_book fc, rfl, true, by rw [str_eq], iteT ?_⟩
    refine ⟨_, rfl, .ref a, c, rfl, hc5.ext0 e6, oc, fun c' f' u' H7 lst' h7 e7 => ?_⟩
    obtain rfl := lst_idem ok lst lst'
    refine ⟨_, bookD c', rfl, h7.wk.dp, show_book fc, ?_⟩
    refine ⟨_, rfl, _, bookD c', rfl, ((hc5.ext0 e6).ext0 e7).wk.dp, show_book fc, rfl, ?_⟩
    rw [str_eq]
    exact q H7 ((eAll.trans e6).trans e7)
/-! ### two books asked -/
def rowD : Option (List Nat) → PyData
  | none => .none
  | some r => .tuple (r.map fun n : Nat => PyData.int (n : Int))
theorem OrV.dp {K : PySem.W.Frag} {H : Hp} {x : V} {o : Option (List Nat)} (h : OrV K H x o) : Dp K H x (rowD o) := by
  rcases h with ⟨rfl, rfl⟩ | ⟨a, r, rfl, rfl, h⟩
  · exact .non
  · refine .tup h ?_
    have : ∀ r : List Nat, DpAll K H (r.map nV) (r.map fun n : Nat => PyData.int (n : Int)) := by
      intro r
      induction r with
      | nil => exact .nil
      | cons n r ih => exact .cons (.int _) ih
    exact this r
theorem OrV.isN {K : PySem.W.Frag} {H : Hp} {x : V} {o : Option (List Nat)} (h : OrV K H x o) : decide (x = .non) = decide (o = none) := by
  rcases h with ⟨rfl, rfl⟩ | ⟨a, r, rfl, rfl, _⟩
  · rfl
  · rfl
theorem part_few {one two : Book} (fo : FormB one) (ft : FormB two) {r : List Nat} (h : partP one two = some r) : r.length ≤ 65 ∧ ∀ m ∈ r, m ≤ 99 := by
  obtain ⟨e, he, hr⟩ := List.exists_of_findSome?_eq_some h
  have all := metP_all fo ft
  have mul8 : one.length * two.length ≤ 64 := Nat.mul_le_mul fo.eight ft.eight
  have most := all.most
  unfold partE at hr
  split at hr
  · cases hr
  · rename_i hn
    cases hr
    have hl := all.row e he
    refine ⟨by rw [List.length_append, List.length_singleton]; omega, fun m hm => ?_⟩
    rcases List.mem_append.mp hm with hm | hm
    · exact all.few e he m hm
    · rw [List.mem_singleton.mp hm]
      have hs := (minL_ok hn).1
      obtain ⟨l1, l2⟩ := all.lt e he
      unfold singleM at hs
      rcases List.mem_append.mp hs with hs | hs
      · obtain ⟨p, hp, e1⟩ := List.mem_map.mp (List.mem_filter.mp hs).1
        have := (fo.ok l1).msg p hp
        unfold singleM
        omega
      · obtain ⟨p, hp, e1⟩ := List.mem_map.mp (List.mem_filter.mp hs).1
        have := (ft.ok l2).msg p hp
        unfold singleM
        omega
theorem sh_row {o : Option (List Nat)} (h : ∀ r, o = some r → r.length ≤ 65 ∧ ∀ m ∈ r, m ≤ 99) : ∃ n, n ≤ 100 ∧ Sh (rowD o) 1 n := by
  cases o with
  | none => exact ⟨100, Nat.le_refl _, ⟨rfl, rfl, by decide, by decide +kernel, by decide +kernel⟩⟩
  | some r =>
    obtain ⟨h1, h2⟩ := h r rfl
    exact ⟨r.length * 1, by omega, Sh.tup ((ShL.map (k := 0) (n := 0) fun m hm => Sh.nat (h2 m hm)))⟩
theorem part_sw {one two : Book} (fo : FormB one) (ft : FormB two) : partP two one = partP one two := by
  unfold partP
  rw [metP_swap fo ft, List.findSome?_map]
  congr 1
  funext e
  show partE two one (swP e) = partE one two e
  have mem : ∀ m, m ∈ singleM (mvs two e.2.2) (mvs one e.2.1) ↔ m ∈ singleM (mvs one e.2.1) (mvs two e.2.2) := by
    intro m
    rw [single_mem, single_mem]
    unfold oneOf
    by_cases h1 : m ∈ (mvs two e.2.2).map (·.1) <;> by_cases h2 : m ∈ (mvs one e.2.1).map (·.1) <;> simp [h1, h2]
  unfold partE swP
  by_cases c : singleM (mvs one e.2.1) (mvs two e.2.2) = []
  · have c2 : singleM (mvs two e.2.2) (mvs one e.2.1) = [] := List.eq_nil_iff_forall_not_mem.mpr fun m hm => by
      have := (mem m).mp hm
      rw [c] at this
      cases this
    rw [if_pos c, if_pos c2]
  · have c2 : singleM (mvs two e.2.2) (mvs one e.2.1) ≠ [] := fun z => c (List.eq_nil_iff_forall_not_mem.mpr fun m hm => by
      have := (mem m).mpr hm
      rw [z] at this
      cases this)
    obtain ⟨a1, a2⟩ := minL_ok c
    rw [if_neg c, if_neg c2, minL_eq ((mem _).mpr a1) fun y hy => a2 y ((mem y).mp hy)]
theorem show_2b (a b : Bool) : ShowOk (.list [.bool a, .bool b]) := by
  cases a <;> cases b <;> exact ⟨by decide +kernel, rfl, by decide, Nat.le_of_lt (small1000 (by decide +kernel))⟩
theorem show_1b (a : Bool) : ShowOk (.bool a) := by
  cases a <;> exact ⟨by decide +kernel, rfl, by decide, Nat.le_of_lt (small1000 (by decide +kernel))⟩
theorem sc_law_two_right : FnScope ["one", "two", "row", "is_more"] ["one", "two"] (defScope s_law_two_right) := ⟨rfl, rfl, rfl, by decide +kernel, rfl, by decide +kernel, by decide +kernel⟩
def sp_law_two_right (K : PySem.W.Frag) : Sp := fun vs H Q _ => ∃ (v u : V) (one two : Book), vs = [v, u] ∧ BkV K H v one ∧ OkB one ∧ BkV K H u two ∧ OkB two ∧ ∀ H', Ext [] H H' → Q (.bl true) H'
theorem ok_law_two_right (T : Tx K mg) : FnG P w K mg base CX0 8 T.law_two_right.f T.law_two_right.fd ["one", "two"] (sp_law_two_right K) := by
  refine FunG.ok T.law_two_right.F sc_law_two_right (fun vs H Q E h => ?_) (fun cdv A outer s H vs Q E hG hr h => ?_)
  · obtain ⟨v, u, one, two, rfl, _⟩ := h; rfl
  · obtain ⟨v, u, one, two, rfl, h1, o1, h2, o2, q⟩ := h
    have fo := o1.toFormB
    have ft := o2.toFormB
    refine ⟨_, (pss_cons (ps_asg (pe_call (ok_law_apart T) (hr.mono (by decide)) (by rfl) T.law_apart.g T.law_apart.F.kp T.law_apart.b .nil pass0 (pa_cons (pv 0) (pa_cons (pv 1) pa_nil))) (pg_tup rfl (pgs_cons (pg_name (i := 2) sc_law_two_right.nd rfl (.inl rfl)) (pgs_cons (pg_name (i := 3) sc_law_two_right.nd rfl (.inl rfl)) pgs_nil))))
      (pss_cons (ps_if (pt_cmpR op_ne (pe_callB (call_reprA hr.units hG) (by rfl) T.n_repr (by decide +kernel) (pa_cons (pe_lst (pa_cons (pe_call (ok_alike T) (hr.mono (by decide)) (by rfl) T.alike.g T.alike.F.kp T.alike.b .nil pass0 (pa_cons (pv 0) (pa_cons (pv 1) pa_nil))) (pa_cons (pe_call (ok_alike T) (hr.mono (by decide)) (by rfl) T.alike.g T.alike.F.kp T.alike.b .nil pass0 (pa_cons (pv 1) (pa_cons (pv 0) pa_nil))) pa_nil))) pa_nil)) (pe_callB (call_reprA hr.units hG) (by rfl) T.n_repr (by decide +kernel) (pa_cons (pe_lst (pa_cons (pe_cmpR op_isN (pv 2) pe_non (nomark _)) (pa_cons (pe_cmpR op_isN (pv 2) pe_non (nomark _)) pa_nil))) pa_nil)) (nomark _))
        (pss_one (ps_ret pe_bl))
        pss_nil)
      (pss_cons (ps_if (pt_cmpR op_ne (pe_callB (call_reprA hr.units hG) (by rfl) T.n_repr (by decide +kernel) (pa_cons (pe_lst (pa_cons (pe_call (ok_part_row T) (hr.mono (by decide)) (by rfl) T.part_row.g T.part_row.F.kp T.part_row.b .nil pass0 (pa_cons (pv 0) (pa_cons (pv 1) pa_nil))) (pa_cons (pe_call (ok_part_row T) (hr.mono (by decide)) (by rfl) T.part_row.g T.part_row.F.kp T.part_row.b .nil pass0 (pa_cons (pv 1) (pa_cons (pv 0) pa_nil))) pa_nil))) pa_nil)) (pe_callB (call_reprA hr.units hG) (by rfl) T.n_repr (by decide +kernel) (pa_cons (pe_lst (pa_cons (pv 2) (pa_cons (pv 2) pa_nil))) pa_nil)) (nomark _))
        (pss_one (ps_ret pe_bl))
        pss_nil)
      (pss_cons (ps_if (pt_cmpR op_ne (pe_callB (call_reprA hr.units hG) (by rfl) T.n_repr (by decide +kernel) (pa_cons (pe_cmpR (op_eqD (hr.units)) (pe_call (okM_least_book T) (hr.mono (by decide)) (by rfl) T.least_book.g T.least_book.F.kp T.least_book.b .nil pass0 (pa_cons (pv 0) pa_nil)) (pe_call (okM_least_book T) (hr.mono (by decide)) (by rfl) T.least_book.g T.least_book.F.kp T.least_book.b .nil pass0 (pa_cons (pv 1) pa_nil)) (nomark _)) pa_nil)) (pe_callB (call_reprA hr.units hG) (by rfl) T.n_repr (by decide +kernel) (pa_cons (pe_cmpR op_isN (pv 2) pe_non (nomark _)) pa_nil)) (nomark _))
        (pss_one (ps_ret pe_bl))
        pss_nil)
      (pss_one (ps_ret (pe_cmpR op_eq (pe_callB (call_reprA hr.units hG) (by rfl) T.n_repr (by decide +kernel) (pa_cons (pe_lst (pa_cons (pe_call (ok_within T) (hr.mono (by decide)) (by rfl) T.within.g T.within.F.kp T.within.b .nil pass0 (pa_cons (pv 0) (pa_cons (pv 1) pa_nil))) (pa_cons (pe_call (ok_within T) (hr.mono (by decide)) (by rfl) T.within.g T.within.F.kp T.within.b .nil pass0 (pa_cons (pv 1) (pa_cons (pv 0) pa_nil))) pa_nil))) pa_nil)) (pe_callB (call_reprA hr.units hG) (by rfl) T.n_repr (by decide +kernel) (pa_cons (pe_lst (pa_cons (pe_not (pv 3)) (pa_cons (pe_not (pe_ix ix_tup (pe_call (ok_law_apart T) (hr.mono (by decide)) (by rfl) T.law_apart.g T.law_apart.F.kp T.law_apart.b .nil pass0 (pa_cons (pv 1) (pa_cons (pv 0) pa_nil))) pe_int (fun _ _ => rfl))) pa_nil))) pa_nil)) (nomark _)))))))), ?_⟩
    refine ⟨_, rfl, _, rfl, v, u, one, two, rfl, h1, fo, h2, ft, fun t x H1 ht hx e1 => ?_⟩
    refine ⟨t, _, rfl, ht, rfl, _, _, rfl, _, _, rfl, rfl, ?_⟩
    have sw : decide (partP two one = none) = decide (partP one two = none) := by rw [part_sw fo ft]
    -- alike
    refine ⟨_, rfl, _, rfl, v, u, one, two, rfl, h1.ext0 e1, o1, h2.ext0 e1, o2, fun H2 e2 => ?_⟩
    refine ⟨_, rfl, _, rfl, u, v, two, one, rfl, h2.ext0 (e1.trans e2), o2, h1.ext0 (e1.trans e2), o1, fun H3 e3 => ⟨(by show 2 ≤ sizeLine; decide), fun t3 ht3 => ?_⟩⟩
    rw [sw]
    have e4 := (e2.trans e3).put2 (o := .lst [.bl (decide (partP one two = none)), .bl (decide (partP one two = none))]) ht3
    refine ⟨_, .list [.bool (decide (partP one two = none)), .bool (decide (partP one two = none))], rfl, .lst (.of upd_same) (.cons (.bl _) (.cons (.bl _) .nil)), show_2b _ _, ?_⟩
    generalize upd H3 t3 (.lst [.bl (decide (partP one two = none)), .bl (decide (partP one two = none))]) = H4 at *
    refine ⟨_, rfl, rfl, _, rfl, rfl, (by show 2 ≤ sizeLine; decide), fun t5 ht5 => ?_⟩
    rw [hx.isN]
    have e5 := e4.put2 (o := .lst [.bl (decide (partP one two = none)), .bl (decide (partP one two = none))]) ht5
    refine ⟨_, .list [.bool (decide (partP one two = none)), .bool (decide (partP one two = none))], rfl, .lst (.of upd_same) (.cons (.bl _) (.cons (.bl _) .nil)), show_2b _ _, rfl, _, rfl, ?_⟩
    rw [str_ne]
    refine iteF ?_
    generalize upd H4 t5 (.lst [.bl (decide (partP one two = none)), .bl (decide (partP one two = none))]) = H5 at *
    have e15 := e1.trans e5
    have hx5 := hx.ext e5 Lsts.nil
    clear e2 e3 e4 ht3 ht5
    obtain ⟨nr, hnr, shr⟩ := sh_row (o := partP one two) fun r hr => part_few fo ft hr
    have sh2 : ShowOk (.list [rowD (partP one two), rowD (partP one two)]) := (Sh.lst (ShL.cons shr (ShL.cons (m := 0) shr ShL.nil))).ok (by decide) (by omega)
    -- part_row
    refine ⟨_, rfl, _, rfl, v, u, one, two, rfl, h1.ext0 e15, o1, h2.ext0 e15, o2, fun x2 H6 hx2 e6 => ?_⟩
    refine ⟨_, rfl, _, rfl, u, v, two, one, rfl, h2.ext0 (e15.trans e6), o2, h1.ext0 (e15.trans e6), o1, fun x3 H7 hx3 e7 => ⟨(by show 2 ≤ sizeLine; decide), fun t8 ht8 => ?_⟩⟩
    rw [part_sw fo ft] at hx3
    have e8 : Ext [] H7 (upd H7 t8 (.lst [x2, x3])) := .new ht8
    refine ⟨_, .list [rowD (partP one two), rowD (partP one two)], rfl, .lst (.of upd_same) (.cons (hx2.ext (e7.trans e8) Lsts.nil).dp (.cons (hx3.ext e8 Lsts.nil).dp .nil)), sh2, ?_⟩
    have e68 := (e6.trans e7).trans e8
    have hx8 := hx5.ext e68 Lsts.nil
    generalize upd H7 t8 (.lst [x2, x3]) = H8 at *
    refine ⟨_, rfl, _, rfl, (by show 2 ≤ sizeLine; decide), fun t9 ht9 => ?_⟩
    have e9 : Ext [] H8 (upd H8 t9 (.lst [x, x])) := .new ht9
    have hx9 := hx8.ext e9 Lsts.nil
    refine ⟨_, .list [rowD (partP one two), rowD (partP one two)], rfl, .lst (.of upd_same) (.cons hx9.dp (.cons hx9.dp .nil)), sh2, rfl, _, rfl, ?_⟩
    rw [str_ne]
    refine iteF ?_
    have e59 := e68.trans e9
    generalize upd H8 t9 (.lst [x, x]) = H9 at *
    have e19 := e15.trans e59
    -- least books
    refine ⟨_, rfl, v, one, rfl, h1.ext0 e19, o1, fun c1 f1 u1 Ha l1 hc1 ea => ?_⟩
    refine ⟨_, rfl, u, two, rfl, h2.ext0 (e19.trans ea), o2, fun c2 f2 u2 Hb l2 hc2 eb => ?_⟩
    refine ⟨_, _, (hc1.ext0 eb).wk.dp, hc2.wk.dp, shaped_book _, shaped_book _, ?_⟩
    rw [eqv_book, decide_eq_decide.mpr (lst_part o1 o2 l1 l2)]
    refine ⟨_, .bool _, rfl, .bl _, show_1b _, ?_⟩
    refine ⟨_, rfl, rfl, ?_⟩
    rw [hx9.isN]
    refine ⟨_, .bool _, rfl, .bl _, show_1b _, rfl, _, rfl, ?_⟩
    rw [str_ne]
    refine iteF ?_
    have e1b := (e19.trans ea).trans eb
    -- within
    refine ⟨_, rfl, _, rfl, v, u, one, two, rfl, h1.ext0 e1b, o1, h2.ext0 e1b, o2, fun Hc ec => ?_⟩
    refine ⟨_, rfl, _, rfl, u, v, two, one, rfl, h2.ext0 (e1b.trans ec), o2, h1.ext0 (e1b.trans ec), o1, fun Hd ed => ⟨(by show 2 ≤ sizeLine; decide), fun te hte => ?_⟩⟩
    have ee := ((e1b.trans ec).trans ed).put2 (o := .lst [.bl (withinP one two), .bl (withinP two one)]) hte
    refine ⟨_, .list [.bool (withinP one two), .bool (withinP two one)], rfl, .lst (.of upd_same) (.cons (.bl _) (.cons (.bl _) .nil)), show_2b _ _, ?_⟩
    generalize upd Hd te (.lst [.bl (withinP one two), .bl (withinP two one)]) = He at *
    refine ⟨_, rfl, _, rfl, _, rfl, _, rfl, u, v, two, one, rfl, h2.ext0 ee, ft, h1.ext0 ee, fo, fun tf xf Hf htf hxf ef => ?_⟩
    refine ⟨tf, _, 1, _, rfl, rfl, htf, atI_nat (j := 1) rfl, _, rfl, (by show 2 ≤ sizeLine; decide), fun tg htg => ?_⟩
    rw [Bool.not_not, Bool.not_not]
    refine ⟨_, .list [.bool (withinP one two), .bool (withinP two one)], rfl, .lst (.of upd_same) (.cons (.bl _) (.cons (.bl _) .nil)), show_2b _ _, rfl, ?_⟩
    rw [str_eq]
    exact q _ ((ee.trans ef).put2 htg)
end
end Nv
set_option Elab.async false
set_option linter.all false
set_option maxRecDepth 100000
namespace Nv
open PySem PySem.Spec PyProof.Rows L2
section
variable {P : Program} {w : World} {K : PySem.W.Frag} {mg : Str → Option Value} {base : Heap}
/-! ### where a message leads, or None -/
def nxV (o : Option Nat) : V := match o with
  | some t => .int (t : Int)
  | none => .non
theorem next_none {b : Book} {s m : Nat} (h : nextM b s m = none) : ((mvs b s).filter fun q => decide (q.1 = m)).map (·.2) = [] := by
  unfold nextM at h
  rw [← List.head?_filter, ← List.head?_map] at h
  cases e : ((mvs b s).filter fun q => decide (q.1 = m)).map (·.2) with
  | nil => rfl
  | cons x r => rw [e] at h; cases h

def sp_law_book_nextG (K : PySem.W.Frag) : Sp := fun vs H Q _ => ∃ (v : V) (b : Book) (s m : Nat), vs = [v, .int s, .int m] ∧ BkV K H v b ∧ FormB b ∧ s < b.length ∧ ∀ H', Ext [] H H' → Q (nxV (nextM b s m)) H'
theorem okG_law_book_next (T : Tx K mg) : FnOk P w K mg base CX0 1 T.law_book_next.f T.law_book_next.fd ["book", "state", "message"] (sp_law_book_nextG K) := by
  refine T.law_book_next.F.ok sc_law_book_next (fun vs H Q E h => ?_) (fun cdv A outer s H vs Q E hr h => ?_)
  · obtain ⟨v, b, s, p, rfl, _⟩ := h; rfl
  · obtain ⟨v, b, st, m0, rfl, ⟨a, ls, rfl, ha, hls⟩, fb, hs, q⟩ := h
    obtain ⟨u, hu, c, ps, rfl, hc, hps⟩ := Paired.get hls (mvs_lt hs)
    have plen := Paired.len hps
    have five := (fb.ok hs).few
    refine ⟨_, (pss_one (ps_ret (pe_ix ix_list (pe_op op_cat (pe_lc (own := [("other", 3), ("to", 4)]) rfl sc_law_book_next.nd (pi_tup (pe_ix ix_tup (pv 0) (pv 1) (fun _ _ => rfl))) (blkOk_by (own := [("other", 3), ("to", 4)]) (N := ["book", "state", "message", "other", "to"]) (sc := defScope s_law_book_next) (by decide +kernel)) (fun _ _ _ _ _ => (pg_tupK (n := 2) K rfl (pgs_cons (pg_name (i := 3) sc_law_book_next.nd rfl (.inl rfl)) (pgs_cons (pg_name (i := 4) sc_law_book_next.nd rfl (.inl rfl)) pgs_nil)))) (fun _ _ _ _ _ => pts_one (pt_mid (pt_cmpR op_eq (pv 3) (pv 2) (nomark _)))) (fun _ _ _ _ _ => (pv 4))) (pe_lst (pa_cons pe_non pa_nil))) pe_int (fun _ _ => rfl)))), ?_⟩
    refine ⟨_, rfl, _, rfl, a, _, _, _, rfl, rfl, ha, atI_nat hu, c, rfl, ⟨_, hc.sq⟩, fun D hD => ?_⟩
    refine lc_tup (K := K) (a := c) (xs := ps.map V.ref) (fun i H' => H' D = some (.lst (((((mvs b st).take i).filter fun q => decide (q.1 = m0)).map (·.2)).map nV)) ∧ Ext [] H H') ⟨by simp; exact upd_same, .new hD⟩ (fun i H' _ ⟨_, e⟩ => (e.tz Lsts.nil hc).sq) ?_ ?_
    · rintro i v H' hv ⟨hX, e⟩
      obtain ⟨g, hg, rfl⟩ := map_at hv
      obtain ⟨p, hpp, hcp⟩ := Paired.get' hps hg
      have hi5 : i < 5 := by
        have := (List.getElem?_eq_some_iff.mp hpp).1
        omega
      refine ⟨g, _, rfl, hcp.ext0 e, rfl, _, _, rfl, _, _, rfl, rfl, rfl, ?_⟩
      refine ⟨fun x H3 => x = decide (p.1 = m0) ∧ H3 = H', ⟨_, rfl, _, rfl, rfl, _, rfl, ?_, rfl⟩, ?_⟩
      · show decide (V.int p.1 = V.int m0) = _
        rw [dec_int]
        exact decide_eq_decide.mpr (by omega)
      · rintro x H3 ⟨rfl, rfl⟩
        refine ifB (fun hf => ?_) (fun hf => ?_)
        · refine ⟨_, rfl, _, hX, ?_, ?_, e.put hD⟩
          · rw [List.length_map, List.length_map]
            refine small1000 (Nat.le_trans (List.length_filter_le _ _) ?_)
            rw [List.length_take]
            omega
          · rw [upd_same, filter_take _ hpp, hf]
            simp
        · refine ⟨?_, e⟩
          rw [hX, filter_take _ hpp, hf]
          simp
    · rintro H' ⟨hX, e⟩
      rw [List.length_map, plen, List.take_length] at hX
      have rl : (((mvs b st).filter fun q => decide (q.1 = m0)).map (·.2)).length ≤ 5 := by
        rw [List.length_map]
        exact Nat.le_trans (List.length_filter_le _ _) five
      refine ⟨(by show 1 ≤ sizeLine; decide), fun z hz => ?_⟩
      have hX2 := (Ext.new (L := []) (o := .lst [.non]) hz).at hX (by simp)
      refine ⟨D, z, _, _, rfl, rfl, hX2, upd_same, ?_, fun t ht => ?_⟩
      · rw [List.length_map]
        exact Nat.le_of_lt (small1000 (by show _ + 1 ≤ 1000; omega))
      · cases hn : nextM b st m0 with
        | none =>
          rw [next_none hn]
          have := q _ ((e.put2 hz).put2 ht (o := .lst [.non]))
          rw [hn] at this
          rw [next_none hn] at hX2
          exact ⟨t, _, _, _, rfl, rfl, .of upd_same, atI_nat (j := 0) rfl, this⟩
        | some t' =>
          obtain ⟨p0, hp0, h1, h2⟩ := next_some hn
          obtain ⟨rest, hrest⟩ := next_head fb hp0
          rw [← h1, hrest]
          have := q (upd (upd H' z (.lst [.non])) t (.lst ((p0.2 :: rest).map nV ++ [.non]))) ((e.put2 hz).put2 ht)
          rw [hn, ← h2] at this
          exact ⟨t, _, _, _, rfl, rfl, .of upd_same, atI_nat (j := 0) rfl, this⟩
end
end Nv
set_option Elab.async false
set_option linter.all false
set_option maxRecDepth 100000
/-! sorted of a list of pairs of small numbers -/
namespace Nv
open PySem PySem.Spec PyProof.Rows L2
def leMv (p q : Nat × Nat) : Prop := p.1 * 100 + p.2 ≤ q.1 * 100 + q.2
def rSortedMv (K : PySem.W.Frag) : List V → Hp → VK → Prop := fun vs H Q => ∃ (a : Addr) (ps : List Addr) (L : State), vs = [V.ref a] ∧ SqL K H a (ps.map V.ref) ∧ Paired (MvV K H) ps L ∧ ps.length < 64 ∧ (∀ m ∈ L, m.1 < 100 ∧ m.2 < 100) ∧
  ∀ (qs : List Addr) (M : State) (p : Addr), Paired (MvV K H) qs M → M.Perm L → M.Pairwise leMv → H p = none → Q (.ref p) (upd H p (.lst (qs.map V.ref)))
theorem mv_ints {X : Cx} {pins : List (Addr × Obj)} {σ : L2.St} {H : Hp} {s : Shared} (I : Inv X pins σ H s) {p : Addr} {m : Nat × Nat} (h : MvV X.K H p m) : TS.TupInts s.heap (.ref p) [(m.1 : Int), (m.2 : Int)] := by
  obtain ⟨its, rv, p1, _⟩ := I.tuple h
  obtain ⟨u1, u2, rfl, ra, rb⟩ := vals2 rv
  obtain ⟨t1, rfl⟩ := ra
  obtain ⟨t2, rfl⟩ := rb
  refine ⟨p, _, rfl, p1, ?_⟩
  exact (show Vals ([(m.1 : Int), (m.2 : Int)].map V.int) [Value.int m.1 t1, Value.int m.2 t2] from .cons ⟨t1, rfl⟩ (.cons ⟨t2, rfl⟩ .nil)).ints
theorem vals_refs_of : ∀ {ps : List Addr} {us : List Value}, Vals (ps.map V.ref) us → us = ps.map Value.ref
  | [], _, r => by cases r; rfl
  | p :: ps, _, r => by
    rw [List.map_cons] at r
    cases r with
    | cons h t =>
      obtain rfl : _ = Value.ref p := h
      rw [vals_refs_of t]
      rfl
theorem paired_pick {α β : Type} {F : α → β → Prop} {l : List α} {m : List β} (h : Paired F l m) : ∀ x ∈ l, ∃ y ∈ m, F x y := fun x hx => by
  obtain ⟨i, hi⟩ := List.mem_iff_getElem?.mp hx
  obtain ⟨y, hy, f⟩ := Paired.get' h hi
  exact ⟨y, List.mem_of_getElem? hy, f⟩
/-- a permutation of the one side carries the other along -/
theorem paired_perm {α β : Type} {F : α → β → Prop} {l l' : List α} (p : l'.Perm l) : ∀ {m : List β}, Paired F l m → ∃ m', m'.Perm m ∧ Paired F l' m' := by
  have key : ∀ {l l' : List α}, l.Perm l' → ∀ {m : List β}, Paired F l m → ∃ m' : List β, m'.Perm m ∧ Paired F l' m' := by
    intro l l' p
    induction p with
    | nil => exact fun {m} h => ⟨m, .refl _, h⟩
    | cons x _ ih =>
      intro m h
      cases h with
      | cons r t =>
        obtain ⟨m', h1, h2⟩ := ih t
        exact ⟨_ :: m', h1.cons _, .cons r h2⟩
    | swap x y l =>
      intro m h
      cases h with
      | cons r t =>
        cases t with
        | cons r2 t2 => exact ⟨_, List.Perm.swap _ _ _, .cons r2 (.cons r t2)⟩
    | trans _ _ ih1 ih2 =>
      intro m h
      obtain ⟨m1, a1, a2⟩ := ih1 h
      obtain ⟨m2, b1, b2⟩ := ih2 a2
      exact ⟨m2, b1.trans a1, b2⟩
  exact fun {m} h => key p.symm h
theorem call_sortedMv {X : Cx} : CallR X (.builtin "sorted") (rSortedMv X.K) := by
  intro pins s σ H vs us Q I r h
  obtain ⟨a, ps, L, rfl, hs, hL, h64, hB, q⟩ := h
  obtain ⟨its, rv, hl, hz⟩ := I.list hs
  obtain ⟨u, rfl, ru⟩ := vals1 r
  obtain rfl : u = Value.ref a := ru
  have ei := vals_refs_of rv
  subst ei
  have ti : ∀ p ∈ ps, ∃ m ∈ L, MvV X.K H p m ∧ TS.TupInts s.heap (.ref p) [(m.1 : Int), (m.2 : Int)] := fun p hp => by
    obtain ⟨m, hm, hmv⟩ := paired_pick hL p hp
    exact ⟨m, hm, hmv, mv_ints I hmv⟩
  refine TS.sorted_tups (d := 2) (B := 100) hl.isList (by rw [List.length_map]; exact h64) (by decide) (fun v hv => ?_) fun out h1 h2 => ?_
  · obtain ⟨p, hp, rfl⟩ := List.mem_map.mp hv
    obtain ⟨m, hm, _, t⟩ := ti p hp
    obtain ⟨b1, b2⟩ := hB m hm
    refine ⟨_, t, rfl, fun x hx => ?_⟩
    simp only [List.mem_cons, List.not_mem_nil, or_false] at hx
    rcases hx with rfl | rfl <;> omega
  obtain ⟨qs, eq⟩ : ∃ qs : List Addr, out.toList = qs.map Value.ref := by
    have : ∀ l : List Value, (∀ v ∈ l, ∃ p : Addr, v = .ref p) → ∃ qs : List Addr, l = qs.map Value.ref := by
      intro l
      induction l with
      | nil => exact fun _ => ⟨[], rfl⟩
      | cons v l ih =>
        intro hv
        obtain ⟨p, rfl⟩ := hv v (List.mem_cons_self ..)
        obtain ⟨qs, rfl⟩ := ih fun x hx => hv x (List.mem_cons_of_mem _ hx)
        exact ⟨p :: qs, rfl⟩
    refine this _ fun v hv => ?_
    obtain ⟨p, _, rfl⟩ := List.mem_map.mp (h1.mem_iff.mp hv)
    exact ⟨p, rfl⟩
  rw [eq] at h1 h2
  have pq : qs.Perm ps := by
    have := h1.map (fun v : Value => match v with | .ref a => a | _ => 0)
    rw [List.map_map, List.map_map] at this
    have f : ∀ l : List Addr, l.map ((fun v : Value => match v with | .ref a => a | _ => 0) ∘ Value.ref) = l := fun l => by
      conv => rhs; rw [← List.map_id l]
      exact List.map_congr_left fun x _ => rfl
    rwa [f, f] at this
  obtain ⟨M, pM, hM⟩ := paired_perm pq hL
  have hlen : (qs.map V.ref).length ≤ sizeLine := by
    rw [List.length_map, pq.length_eq, sizeLine_eq]
    omega
  obtain ⟨ep, he⟩ := PyProof.Rows.sortedAll_at s.heap (ps.map Value.ref) out
  refine ⟨.ref _, upd H (s.heap.objs.size + 1) (.lst (qs.map V.ref)), I.laid (t' := s.toks) (fun _ _ => PyProof.Rows.sortedAll_old) (Nat.le_succ _) ⟨hlen, out.toList, ep, by rw [eq]; exact vals_refs _, he⟩, rfl, q qs M _ hM pM ?_ (I.hok.fresh (Nat.le_succ _))⟩
  rw [List.pairwise_map] at h2
  have key : ∀ {qs : List Addr} {M : State}, Paired (MvV X.K H) qs M → qs.Pairwise (fun x y => TS.code 100 (TS.intsOf s.heap (.ref x)) ≤ TS.code 100 (TS.intsOf s.heap (.ref y))) → M.Pairwise leMv := by
    intro qs M h
    induction h with
    | nil => exact fun _ => .nil
    | @cons x m xs ms r t ih =>
      intro hp
      obtain ⟨p1, p2⟩ := List.pairwise_cons.mp hp
      refine List.pairwise_cons.mpr ⟨fun y hy => ?_, ih p2⟩
      obtain ⟨i, hi⟩ := List.mem_iff_getElem?.mp hy
      obtain ⟨z, hz, hzy⟩ := Paired.get t hi
      have := p1 z (List.mem_of_getElem? hz)
      rw [(mv_ints I r).ints, (mv_ints I hzy).ints] at this
      have this : (m.1 : Int) * 100 ^ 1 + ((m.2 : Int) * 100 ^ 0 + 0) ≤ (y.1 : Int) * 100 ^ 1 + ((y.2 : Int) * 100 ^ 0 + 0) := this
      unfold leMv
      omega
  exact key hM h2
end Nv
set_option Elab.async false
set_option linter.all false
set_option maxRecDepth 100000
namespace Nv
open PySem PySem.Spec PyProof.Rows L2
section
variable {P : Program} {w : World} {K : PySem.W.Frag} {mg : Str → Option Value} {base : Heap}
/-! ### a book led elsewhere -/
theorem newZ' {K : PySem.W.Frag} {H H' : Hp} {p : Addr} {xs : List V} (f : H p = none) (h : ∃ o : Obj, o.dict = none ∧ H' = upd H p (.frz o (.tup xs))) : TupZ H' p xs ∧ Ext [] H H' := by
  obtain ⟨o, od, rfl⟩ := h
  exact ⟨⟨o, upd_same, od⟩, .new f⟩
theorem shaped_stD (s : State) : SeqAt.shaped (stD s) = true := by
  have h1 := mvs_lay s
  have h2 := mvs_depth s
  simp [SeqAt.shaped, PyData.canLay0, PyData.depth, stD, h1]
  omega
theorem RawL.putAll {K : PySem.W.Frag} {H : Hp} {m : Addr} {as : List Addr} {c : Book} {o : Nat} {a : Addr} {xs : List V} {qs : List Addr} {st : State} (h : RawL K H m as c) (ha : as[o]? = some a) (ho : o < c.length) (hp : H a = some (.lst xs)) (hq : Paired (MvV K H) qs st) :
    RawL K (upd H a (.lst (qs.map V.ref))) m as (c.set o st) := by
  have am : m ≠ a := fun z => h.off (by rw [z]; exact List.mem_of_getElem? ha)
  refine ⟨by rw [upd_ne am]; exact h.at_, h.nd, h.off, Paired.of_get (by rw [List.length_set]; exact Paired.len h.st) fun i x t h1 h2 => ?_⟩
  by_cases e : o = i
  · subst e
    rw [ha] at h1
    cases h1
    rw [List.getElem?_set_self ho] at h2
    cases h2
    exact ⟨_, upd_same, Paired.imp hq fun _ _ z => z.put hp⟩
  · rw [List.getElem?_set_ne e] at h2
    have hx : x ≠ a := fun z => by
      subst z
      exact e ((List.getElem?_inj (List.getElem?_eq_some_iff.mp ha).1 h.nd).mp (ha.trans h1.symm))
    obtain ⟨s', e1, qs', e2, e3⟩ := Paired.get' h.st h1
    rw [h2] at e1
    cases e1
    exact ⟨qs', by rw [upd_ne hx]; exact e2, Paired.imp e3 fun _ _ z => z.put hp⟩
theorem StOk.setTo {n : Nat} {s : State} (h : StOk n s) {k : Nat} {q : Nat × Nat} (hq : s[k]? = some q) {t : Nat} (ht : t < n) : StOk n (s.set k (q.1, t)) := by
  have d : StD n 5 s := ⟨h.few, h.rise, h.msg, h.to⟩
  have d2 := d.set hq ht
  exact ⟨d2.few, d2.rise, d2.msg, d2.to⟩
theorem StOk.erase {n : Nat} {s : State} (h : StOk n s) (k : Nat) : StOk n (s.eraseIdx k) := by
  have sub := List.eraseIdx_sublist s k
  refine ⟨Nat.le_trans sub.length_le h.few, List.Pairwise.sublist (sub.map _) h.rise, fun p hp => h.msg p (sub.subset hp), fun p hp => h.to p (sub.subset hp)⟩
theorem paired_erase {α β : Type} {F : α → β → Prop} : ∀ {l : List α} {m : List β} (k : Nat), Paired F l m → Paired F (l.eraseIdx k) (m.eraseIdx k)
  | _, _, _, .nil => .nil
  | _, _, 0, .cons _ t => t
  | _, _, k + 1, .cons r t => .cons r (paired_erase k t)
/-- a further move, all in order -/
theorem StOk.more {n : Nat} {s M : State} {m t : Nat} (h : StOk n s) (h4 : s.length ≤ 4) (hm : m ∉ s.map (·.1)) (h99 : m ≤ 99) (ht : t < n) (h8 : n ≤ 100) (pM : M.Perm (s ++ [(m, t)])) (hs : M.Pairwise leMv) : StOk n M := by
  have mem : ∀ p ∈ M, p ∈ s ∨ p = (m, t) := fun p hp => by
    rcases List.mem_append.mp (pM.mem_iff.mp hp) with hp | hp
    · exact .inl hp
    · exact .inr (List.mem_singleton.mp hp)
  have nd : (M.map (·.1)).Nodup := by
    rw [(pM.map (·.1)).nodup_iff, List.map_append]
    exact List.nodup_append.mpr ⟨srt_nodup h.rise, by simp, fun a ha b hb e => hm (by rw [show m = b from (List.mem_singleton.mp hb).symm, ← e]; exact ha)⟩
  refine ⟨by rw [pM.length_eq, List.length_append, List.length_singleton]; omega, ?_, fun p hp => ?_, fun p hp => ?_⟩
  · rw [List.pairwise_map]
    have nd' : M.Pairwise (fun p q => p.1 ≠ q.1) := List.pairwise_map.mp nd
    have both := List.Pairwise.and hs nd'
    refine List.Pairwise.imp_of_mem (fun {p q} hp hq z => ?_) both
    obtain ⟨z1, z2⟩ := z
    unfold leMv at z1
    have b1 : p.2 < n := by
      rcases mem p hp with h1 | rfl
      · exact h.to p h1
      · exact ht
    have b2 : q.2 < n := by
      rcases mem q hq with h1 | rfl
      · exact h.to q h1
      · exact ht
    omega
  · rcases mem p hp with h1 | rfl
    · exact h.msg p h1
    · exact h99
  · rcases mem p hp with h1 | rfl
    · exact h.to p h1
    · exact ht
theorem sc_law_led_elsewhere : FnScope ["pool", "book", "moves", "some", "state", "at", "way", "message", "one"] ["pool", "book"] (defScope s_law_led_elsewhere) := ⟨rfl, rfl, rfl, by decide +kernel, rfl, by decide +kernel, by decide +kernel⟩
def sp_law_led_elsewhere (K : PySem.W.Frag) : Sp := fun vs H Q _ => ∃ (p l : Addr) (v : V) (b : Book), vs = [.ref p, v] ∧ PoolAt H p l ∧ BkV K H v b ∧ OkB b ∧ (∀ s ∈ b, s.length ≤ 4) ∧ ∀ (c : Book) (v' : V) (H' : Hp), OkB c → BkV K H' v' c → PoolAt H' p l → Ext [p, l] H H' → Q v' H'
theorem ok_law_led_elsewhere (T : Tx K mg) : FnOk P w K mg base CX0 3 T.law_led_elsewhere.f T.law_led_elsewhere.fd ["pool", "book"] (sp_law_led_elsewhere K) := by
  refine T.law_led_elsewhere.F.ok sc_law_led_elsewhere (fun vs H Q E h => ?_) (fun cdv A outer s H vs Q E hr h => ?_)
  · obtain ⟨p, l, v, b, rfl, _⟩ := h; rfl
  · obtain ⟨p, l, v, b, rfl, P0, hb, ok, h4, q⟩ := h
    have fb := ok.toFormB
    obtain ⟨a, ls, rfl, ha, hls⟩ := id hb
    have llen := Paired.len hls
    have h8 := fb.eight
    have h1 := fb.one
    refine ⟨_, (pss_cons (ps_setLc (i := 2) (own := [("state", 4)]) rfl sc_law_led_elsewhere.nd rfl rfl (sw_true rfl rfl rfl (by decide +kernel)) (pi_tup (pv 1)) (blkOk_by (own := [("state", 4)]) (N := ["pool", "book", "moves", "some", "state", "at", "way", "message", "one"]) (sc := defScope s_law_led_elsewhere) (by decide +kernel)) (fun _ _ _ _ _ => (pg_name (i := 4) sc_law_led_elsewhere.nd rfl (.inl rfl))) (fun _ _ _ _ _ => pts_nil) (fun _ _ _ _ _ => (pe_callTy (call_list_ofK K) (by rfl) T.n_list (by decide +kernel) (pa_cons (pv 4) pa_nil))))
      (pss_cons (ps_setLc (i := 3) (own := [("state", 4)]) rfl sc_law_led_elsewhere.nd rfl rfl (sw_true rfl rfl rfl (by decide +kernel)) (pi_range1 (by rfl) T.n_range (pa_cons (pe_callB call_len_seq (by rfl) T.n_len PySem.boot_len (pa_cons (pv 1) pa_nil)) pa_nil)) (blkOk_by (own := [("state", 4)]) (N := ["pool", "book", "moves", "some", "state", "at", "way", "message", "one"]) (sc := defScope s_law_led_elsewhere) (by decide +kernel)) (fun _ _ _ _ _ => (pg_name (i := 4) sc_law_led_elsewhere.nd rfl (.inl rfl))) (fun _ _ _ _ _ => pts_one (pt_mid (pt_cmpR (op_neDK K hr.units) (pe_ix (ix_tupK K) (pv 1) (pv 4) (fun _ _ => rfl)) (pe_tupZ pa_nil) (nomark _)))) (fun _ _ _ _ _ => (pv 4)))
      (pss_cons (ps_if (pt_cmpR (op_eqD (hr.units)) (pv 3) (pe_lst pa_nil) (nomark _))
        (pss_one (ps_ret (pe_tupZ (pa_cons (pe_tupZ (pa_cons (pe_tupZ (pa_cons pe_int (pa_cons pe_int pa_nil))) pa_nil)) pa_nil))))
        pss_nil)
      (pss_cons (ps_set (i := 4) sc_law_led_elsewhere.nd rfl (.inr rfl) (pe_call (ok_law_pick T) (hr.mono (by decide)) (by rfl) T.law_pick.g T.law_pick.F.kp T.law_pick.b .nil pass0 (pa_cons (pv 0) (pa_cons (pv 3) pa_nil))))
      (pss_cons (ps_par (i := 5) (j := 6) (by rfl) sc_law_led_elsewhere.nd rfl rfl (by decide) rfl rfl (pa_cons (pe_call (ok_law_draw T) (hr.mono (by decide)) (by rfl) T.law_draw.g T.law_draw.F.kp T.law_draw.b .nil pass0 (pa_cons (pv 0) (pa_cons (pe_callB call_len_seq (by rfl) T.n_len PySem.boot_len (pa_cons (pe_ix ix_list (pv 2) (pv 4) (fun _ _ => rfl)) pa_nil)) pa_nil))) (pa_cons (pe_call (ok_law_draw T) (hr.mono (by decide)) (by rfl) T.law_draw.g T.law_draw.F.kp T.law_draw.b .nil pass0 (pa_cons (pv 0) (pa_cons pe_int pa_nil))) pa_nil)) (by rfl))
      (C8.pss_cut (ps_if (pt_cmpR op_eq (pv 6) pe_int (nomark _))
        (pss_one (ps_asg (pe_tupZ (pa_cons (pe_ix ix_tup (pe_ix ix_list (pe_ix ix_list (pv 2) (pv 4) (fun _ _ => rfl)) (pv 5) (fun _ _ => rfl)) pe_int (fun _ _ => rfl)) (pa_cons (pe_call (ok_law_draw T) (hr.mono (by decide)) (by rfl) T.law_draw.g T.law_draw.F.kp T.law_draw.b .nil pass0 (pa_cons (pv 0) (pa_cons (pe_callB call_len_seq (by rfl) T.n_len PySem.boot_len (pa_cons (pv 1) pa_nil)) pa_nil))) pa_nil))) (pg_sub (pe_ix ix_list (pv 2) (pv 4) (fun _ _ => rfl)) (pv 5) set_list)))
        (pss_one (ps_if (pt_cmpR op_eq (pv 6) pe_int (nomark _))
          (pss_one (ps_expr (pe_bm PySem.F.plainAttrs_list PySem.F.slot_list_pop PySem.F.type_list_pop mt_popAt (pe_ix ix_list (pv 2) (pv 4) (fun _ _ => rfl)) (pa_cons (pv 5) pa_nil))))
          (pss_cons (ps_set (i := 7) sc_law_led_elsewhere.nd rfl (.inl rfl) (pe_call (ok_law_pick T) (hr.mono (by decide)) (by rfl) T.law_pick.g T.law_pick.F.kp T.law_pick.b .nil pass0 (pa_cons (pv 0) (pa_cons (pe_lc (own := [("one", 8)]) rfl sc_law_led_elsewhere.nd (pi_range1 (by rfl) T.n_range (pa_cons pe_int pa_nil)) (blkOk_by (own := [("one", 8)]) (N := ["pool", "book", "moves", "some", "state", "at", "way", "message", "one"]) (sc := defScope s_law_led_elsewhere) (by decide +kernel)) (fun _ _ _ _ _ => (pg_name (i := 8) sc_law_led_elsewhere.nd rfl (.inl rfl))) (fun _ _ _ _ _ => pts_one (pt_mid (pt_cmpR op_isN (pe_call (okG_law_book_next T) (hr.mono (by decide)) (by rfl) T.law_book_next.g T.law_book_next.F.kp T.law_book_next.b .nil pass0 (pa_cons (pv 1) (pa_cons (pv 4) (pa_cons (pv 8) pa_nil)))) pe_non (nomark _)))) (fun _ _ _ _ _ => (pv 8))) pa_nil))))
          (pss_one (ps_asg (pe_callB call_sortedMv (by rfl) T.n_sorted (by decide +kernel) (pa_cons (pe_op op_cat (pe_ix ix_list (pv 2) (pv 4) (fun _ _ => rfl)) (pe_lst (pa_cons (pe_tupZ (pa_cons (pv 7) (pa_cons (pe_call (ok_law_draw T) (hr.mono (by decide)) (by rfl) T.law_draw.g T.law_draw.F.kp T.law_draw.b .nil pass0 (pa_cons (pv 0) (pa_cons (pe_callB call_len_seq (by rfl) T.n_len PySem.boot_len (pa_cons (pv 1) pa_nil)) pa_nil))) pa_nil))) pa_nil))) pa_nil)) (pg_sub (pv 2) (pv 4) set_list)))))))
      (pss_one (ps_ret (pe_call (ok_law_book_meeting T) (hr.mono (by decide)) (by rfl) T.law_book_meeting.g T.law_book_meeting.F.kp T.law_book_meeting.b .nil pass0 (pa_cons (pv 2) pa_nil)))))))))), ?_⟩
    -- moves
    refine ⟨_, rfl, a, rfl, ⟨_, ha⟩, fun D hD => ?_⟩
    refine lc_tup (K := K) (a := a) (xs := ls) (fun i H' => ∃ as : List Addr, RawL K H' D as (b.take i) ∧ (∀ x ∈ as, H x = none) ∧ Ext [] H H') ⟨[], ⟨upd_same, .nil, by simp, .nil⟩, fun x hx => (nomatch hx), .new hD⟩ (fun i H' _ ⟨_, _, _, e⟩ => e.tup Lsts.nil ha) ?_ ?_
    · rintro i v H' hv ⟨as, R, hf, e⟩
      obtain ⟨st, hst, c, ps, rfl, hc, hps⟩ := Paired.get' hls hv
      have hib : i < b.length := (List.getElem?_eq_some_iff.mp hst).1
      refine ⟨rfl, yes ?_⟩
      refine ⟨_, rfl, c, _, rfl, .inr (e.tup Lsts.nil hc.sq), fun nl hnl => ?_⟩
      have e1 : Ext [] H' (upd H' nl (.lst (ps.map V.ref))) := .new hnl
      have R1 := R.ext e1 Lsts.nil (by simp) (by simp)
      have nlD : D ≠ nl := ne_of_none R.at_ hnl
      have nla : nl ∉ as := fun z => by
        obtain ⟨j, hj⟩ := List.mem_iff_getElem?.mp z
        obtain ⟨_, _, _, h2, _⟩ := Paired.get' R.st hj
        rw [h2] at hnl
        cases hnl
      refine ⟨_, R1.at_, ?_, as ++ [nl], ⟨by rw [upd_same, List.map_append]; rfl, ?_, ?_, ?_⟩, fun x hx => ?_, (e.trans e1).put hD⟩
      · rw [List.length_map, Paired.len R.st, List.length_take]
        exact small1000 (by omega)
      · exact List.nodup_append.mpr ⟨R.nd, by simp, fun x hx y hy e => nla (by rw [← List.mem_singleton.mp hy, ← e]; exact hx)⟩
      · rw [List.mem_append]
        rintro (z | z)
        · exact R.off z
        · exact nlD (List.mem_singleton.mp z)
      · rw [List.take_add_one, hst]
        refine Paired.snoc ⟨ps, by rw [upd_ne nlD.symm, upd_same], Paired.imp hps fun _ _ z => (MvV.ext0 z (e.trans e1)).put R1.at_⟩ (Paired.of_get (Paired.len R1.st) fun i x t h1 h2 => ?_)
        obtain ⟨s', e1', qs, e2, e3⟩ := Paired.get' R1.st h1
        rw [h2] at e1'
        cases e1'
        have hx : x ≠ D := fun z => R.off (by rw [← z]; exact List.mem_of_getElem? h1)
        exact ⟨qs, by rw [upd_ne hx]; exact e2, Paired.imp e3 fun _ _ z => z.put R1.at_⟩
      · rcases List.mem_append.mp hx with hx | hx
        · exact hf x hx
        · rw [List.mem_singleton.mp hx]
          exact e.free hnl
    rintro H1 ⟨as, R, hf, e1⟩
    rw [llen, List.take_length] at R
    have P1 := P0.ext0 e1
    have offF : ∀ {x : Addr}, H x = none → x ∉ [p, l] := fun hx => off2 (P0.off hx).1 (P0.off hx).2
    -- some
    refine ⟨_, rfl, a, _, rfl, .inr (e1.tup Lsts.nil ha), _, rfl, by omega, by omega, fun so hso => ?_⟩
    rw [forTo llen]
    have sop := P1.off hso
    refine filt_range (fun s => !decide (mvs b s = [])) hso (by omega) (fun v => rfl) (fun v => rfl) (fun k H' hk e => ?_) (fun H2 hS e2 => ?_)
    · obtain ⟨u, hu, c, ps, rfl, hc, hps⟩ := Paired.get hls (mvs_lt hk)
      refine ⟨_, rfl, _, rfl, a, _, _, _, rfl, rfl, (e1.trans e).tup Lsts.nil ha, atI_nat hu, Nat.zero_le _, fun g H5 hg hH5 => ?_⟩
      obtain ⟨gz, e5⟩ := newZ' (K := K) hg hH5
      refine ⟨stD (mvs b k), .tuple [], .tup ((e1.trans (e.trans e5)).tz Lsts.nil hc).sq (dp_mvs (Paired.imp hps fun _ _ z => MvV.ext0 z (e1.trans (e.trans e5)))), .tup gz.sq .nil, shaped_stD _, by decide, _, rfl, ?_, e5⟩
      rw [show PyData.eqv (stD (mvs b k)) (.tuple []) = decide (mvs b k = []) from eqv_stD _ []]
    have e12 := e1.trans e2
    have P2 := P1.ext0 e2
    have R2 := R.ext e2 Lsts.nil (by simp) (by simp)
    -- if some == []
    refine ⟨_, rfl, Nat.zero_le _, fun z hz => ?_⟩
    have ez : Ext [] H2 (upd H2 z (.lst [])) := .new hz
    have hSz := ez.at hS (by simp)
    have hSi := hSz
    rw [map_nV_iN] at hSi
    refine ⟨_, _, .lst (.of hSi) (dp_ints _), .lst (.of upd_same) .nil, shaped_ints _, by decide, _, rfl, ?_⟩
    rw [eqv_nil]
    have P3 := P2.ext0 ez
    have R3 := R2.ext ez Lsts.nil (by simp) (by simp)
    have e3 := e12.trans ez
    clear e2 hS hso P1 R e1 ez R2 P2 hz
    generalize upd H2 z (.lst []) = H3 at *
    refine ite2 (fun _ => ?_) (fun hne => ?_)
    · -- ((0, 0),)
      refine ⟨(by show 2 ≤ sizeLine; decide), fun g1 G1 hg1 hG1 => ?_⟩
      obtain ⟨z1, x1⟩ := newZ' (K := K) hg1 hG1
      refine ⟨(by show 1 ≤ sizeLine; decide), fun g2 G2 hg2 hG2 => ?_⟩
      obtain ⟨z2, x2⟩ := newZ' (K := K) hg2 hG2
      refine ⟨(by show 1 ≤ sizeLine; decide), fun g3 G3 hg3 hG3 => ?_⟩
      obtain ⟨z3, x3⟩ := newZ' (K := K) hg3 hG3
      refine q [[(0, 0)]] _ G3 ?_ ⟨g3, [.ref g2], rfl, z3.sq, .cons ⟨g2, [g1], rfl, x3.tz Lsts.nil z2, .cons ((x2.trans x3).tz Lsts.nil z1).sq .nil⟩ .nil⟩ (((P3.ext0 x1).ext0 x2).ext0 x3) (((e3.trans x1).trans x2).trans x3).weak
      refine ⟨⟨by decide, by decide, fun s hs => ?_⟩, fun s hs => ?_⟩
      · rw [List.mem_singleton.mp hs]
        exact ⟨by decide, by decide, fun p hp => by rw [List.mem_singleton.mp hp]; decide, fun p hp => by rw [List.mem_singleton.mp hp]; decide⟩
      · have : s = 0 := by simpa using hs
        rw [this]
        exact .zero
    -- state
    have hsl : 0 < ((List.range b.length).filter fun s => !decide (mvs b s = [])).length := by
      refine List.length_pos_iff.mpr fun z => hne ?_
      rw [z]
      rfl
    have hsl2 : ((List.range b.length).filter fun s => !decide (mvs b s = [])).length ≤ 8 := Nat.le_trans (List.length_filter_le _ _) (by rw [List.length_range]; exact h8)
    refine ⟨_, rfl, _, rfl, p, l, so, _, rfl, P3, .of hSz, sop.1, sop.2, by rw [List.length_map]; exact hsl, by rw [List.length_map]; omega, fun i v H4 hi P4 e4 => ?_⟩
    obtain ⟨s, hs, rfl⟩ := map_at hi
    obtain ⟨hsb, hsn⟩ := mem_filt.mp (List.mem_of_getElem? hs)
    have hsn : mvs b s ≠ [] := by simpa using hsn
    have R4 := R3.ext e4 P3.lsts (offF hD) fun x hx => offF (hf x hx)
    have e34 := e3.weak.trans e4
    obtain ⟨x, ps, hx, hxl, hps⟩ := R4.get hsb
    have plen := Paired.len hps
    have so5 := fb.ok hsb
    have few := so5.few
    have mpos : 0 < (mvs b s).length := List.length_pos_iff.mpr hsn
    -- at, way
    refine ⟨_, rfl, _, rfl, _, rfl, D, _, _, _, rfl, rfl, .of R4.at_, atI_nat (at_map hx), x, _, rfl, .inl (.of hxl), p, l, _, rfl, P4, by rw [List.length_map]; omega, by rw [List.length_map]; omega, fun k H5 k0 k1 P5 e5 => ?_⟩
    rw [List.length_map, plen] at k1
    obtain ⟨k, rfl⟩ : ∃ j : Nat, k = j := ⟨k.toNat, by omega⟩
    have hk : k < (mvs b s).length := by omega
    refine ⟨_, rfl, p, l, 3, rfl, P5, by decide, by decide, fun way H6 w0 w3 P6 e6 => ⟨_, _, rfl, ?_⟩⟩
    have e56 := e5.trans e6
    have R6 := (R4.ext e5 P4.lsts (offF hD) fun x hx => offF (hf x hx)).ext e6 P5.lsts (offF hD) fun x hx => offF (hf x hx)
    have e36 := e34.trans e56
    clear e56 e34 R4 R3 e3 e4 e5 e6 P3 P4 P5 hxl hps hSz hSi plen ps
    obtain ⟨x', ps, hx', hxl, hps⟩ := R6.get hsb
    obtain rfl : x = x' := Option.some.inj (hx.symm.trans hx')
    have plen := Paired.len hps
    have xH := hf x (List.mem_of_getElem? hx)
    have hb6 : BkV K H6 (.ref a) b := hb.ext e36 P0.lsts
    refine ⟨fun σ H' => ∃ (st : State) (y7 : Option V), σ = [some (.ref p), some (.ref a), some (.ref D), some (.ref so), some (nV s), some (.int k), some (.int way), y7, none] ∧ StOk b.length st ∧ LbV K H' (.ref D) (b.set s st) ∧ PoolAt H' p l ∧ Ext [p, l] H H', ?_, ?_⟩
    · refine ⟨_, rfl, rfl, _, rfl, ite2 (fun _ => ?_) (fun _ => ?_)⟩
      · -- one move elsewhere
        have hp : (mvs b s)[k]? = some (mvs b s)[k] := List.getElem?_eq_getElem hk
        generalize (mvs b s)[k] = pr at hp
        obtain ⟨nt, hnt, hmv⟩ := Paired.get hps hp
        refine ⟨_, rfl, _, rfl, D, _, _, _, rfl, rfl, .of R6.at_, atI_nat (at_map hx), _, rfl, x, _, _, _, rfl, rfl, .of hxl, atI_nat (at_map hnt), nt, _, 0, _, rfl, rfl, hmv, atI_nat (j := 0) rfl, ?_⟩
        refine ⟨_, rfl, _, rfl, a, _, rfl, .inr (e36.tup P0.lsts ha), p, l, _, rfl, P6, by omega, by omega, fun t H7 t0 t1 P7 e7 => ?_⟩
        rw [llen] at t1
        obtain ⟨t, rfl⟩ : ∃ j : Nat, t = j := ⟨t.toNat, by omega⟩
        refine ⟨(by show 2 ≤ sizeLine; decide), fun g H8 hg hH8 => ?_⟩
        obtain ⟨gz, e8⟩ := newZ' (K := K) hg hH8
        have R8 := (R6.ext e7 P6.lsts (offF hD) fun x hx => offF (hf x hx)).ext e8 Lsts.nil (by simp) (by simp)
        obtain ⟨x2, ps2, hx2, hxl2, hps2⟩ := R8.get hsb
        obtain rfl : x = x2 := Option.some.inj (hx.symm.trans hx2)
        have gm : MvV K H8 g (pr.1, t) := gz.sq
        have W := R8.wr (k := k) hx (mvs_lt hsb) hxl2 hps2 gm
        refine ⟨_, rfl, _, rfl, D, _, _, _, rfl, rfl, .of R8.at_, atI_nat (at_map hx), _, rfl, x, _, _, k, rfl, rfl, hxl2, ixNat (by rw [List.length_map, Paired.len hps2]; exact hk), ?_⟩
        rw [← List.map_set]
        exact ⟨(mvs b s).set k (pr.1, t), _, rfl, so5.setTo hp (by omega), W.ls, (P7.ext0 e8).put (P0.off xH).1 (P0.off xH).2, ((e36.trans e7).trans e8.weak).put' xH⟩
      · refine ⟨_, rfl, rfl, _, rfl, ite2 (fun _ => ?_) (fun _ => ?_)⟩
        · -- one move less
          have hnt : ps[k]? = some (ps[k]'(by omega)) := List.getElem?_eq_getElem (by omega)
          generalize ps[k]'(by omega) = nt at hnt
          refine ⟨_, rfl, _, rfl, D, _, _, _, rfl, rfl, .of R6.at_, atI_nat (at_map hx), .inl ⟨rfl, _, .of hxl⟩, _, rfl, x, _, _, k, V.ref nt, rfl, rfl, hxl, by omega, by omega, by rw [List.length_map]; exact seqAt (by omega), at_map hnt, ?_⟩
          rw [eraseIdx_nV V.ref ps k]
          have W := R6.putAll hx hsb hxl (paired_erase k hps)
          exact ⟨(mvs b s).eraseIdx k, _, rfl, so5.erase k, W.ls, P6.put (P0.off xH).1 (P0.off xH).2, e36.put' xH⟩
        · -- one more
          have l4 : (mvs b s).length ≤ 4 := h4 _ (mvs_mem hsb)
          refine ⟨_, rfl, _, rfl, by omega, by omega, fun D2 hD2 => ?_⟩
          have D2p := P6.off hD2
          refine filt_range (n := 6) (fun m => decide (nextM b s m = none)) hD2 (by omega) (fun v => rfl) (fun v => rfl) (fun m H' hm e => ?_) (fun H7 hF e7 => ?_)
          · refine ⟨_, rfl, _, rfl, _, rfl, .ref a, b, s, m, rfl, hb6.ext0 e, fb, hsb, fun H8 e8 => ⟨rfl, _, rfl, ?_, e8⟩⟩
            cases nextM b s m <;> rfl
          have fpos : 0 < ((List.range 6).filter fun m => decide (nextM b s m = none)).length := by
            refine List.length_pos_iff.mpr fun z => ?_
            have sub := List.Nodup.length_le_of_subset (List.nodup_range (n := 6)) (l₂ := (mvs b s).map (·.1)) fun m hm => by
              have := List.filter_eq_nil_iff.mp z m hm
              have this : ¬ nextM b s m = none := by simpa using this
              cases hn : nextM b s m with
              | none => exact absurd hn this
              | some t =>
                obtain ⟨p0, hp0, e1, _⟩ := next_some hn
                exact List.mem_map.mpr ⟨p0, hp0, e1⟩
            rw [List.length_range, List.length_map] at sub
            omega
          have fle : ((List.range 6).filter fun m => decide (nextM b s m = none)).length ≤ 6 := Nat.le_trans (List.length_filter_le _ _) (by rw [List.length_range]; exact Nat.le_refl _)
          refine ⟨p, l, D2, _, rfl, P6.ext0 e7, .of hF, D2p.1, D2p.2, by rw [List.length_map]; exact fpos, by rw [List.length_map]; omega, fun i0 v H8 hi0 P8 e8 => ?_⟩
          obtain ⟨m, hm, rfl⟩ := map_at hi0
          obtain ⟨hm6, hmn⟩ := List.mem_filter.mp (List.mem_of_getElem? hm)
          have hm6 := List.mem_range.mp hm6
          have hmn : nextM b s m = none := of_decide_eq_true hmn
          have hno : m ∉ (mvs b s).map (·.1) := fun z => by
            obtain ⟨p0, hp0, e0⟩ := List.mem_map.mp z
            unfold nextM at hmn
            rw [Option.map_eq_none_iff, List.find?_eq_none] at hmn
            have := hmn p0 hp0
            simp [e0] at this
          have R8 := (R6.ext e7 Lsts.nil (by simp) (by simp)).ext e8 (P6.ext0 e7).lsts (offF hD) fun x hx => offF (hf x hx)
          have e38 := (e36.trans e7.weak).trans e8
          refine ⟨_, rfl, _, rfl, D, _, _, _, rfl, rfl, .of R8.at_, atI_nat (at_map hx), ?_⟩
          refine ⟨_, rfl, _, rfl, _, rfl, a, _, rfl, .inr (e38.tup P0.lsts ha), p, l, _, rfl, P8, by omega, by omega, fun t H9 t0 t1 P9 e9 => ?_⟩
          rw [llen] at t1
          obtain ⟨t, rfl⟩ : ∃ j : Nat, t = j := ⟨t.toNat, by omega⟩
          refine ⟨(by show 2 ≤ sizeLine; decide), fun g G hg hG => ?_⟩
          obtain ⟨gz, eg⟩ := newZ' (K := K) hg hG
          refine ⟨(by show 1 ≤ sizeLine; decide), fun l1 hl1 => ?_⟩
          have ea : Ext [] G (upd G l1 (.lst [.ref g])) := .new hl1
          have RA := ((R8.ext e9 P8.lsts (offF hD) fun x hx => offF (hf x hx)).ext eg Lsts.nil (by simp) (by simp)).ext ea Lsts.nil (by simp) (by simp)
          obtain ⟨x2, ps2, hx2, hxl2, hps2⟩ := RA.get hsb
          obtain rfl : x = x2 := Option.some.inj (hx.symm.trans hx2)
          have pl2 := Paired.len hps2
          refine ⟨x, l1, _, _, rfl, rfl, hxl2, upd_same, ?_, fun cc hcc => ?_⟩
          · rw [List.length_map]
            exact Nat.le_of_lt (small1000 (by show ps2.length + 1 ≤ 1000; omega))
          have eb : Ext [] (upd G l1 (.lst [.ref g])) (upd (upd G l1 (.lst [.ref g])) cc (.lst (ps2.map V.ref ++ [.ref g]))) := .new hcc
          have gm : MvV K (upd (upd G l1 (.lst [.ref g])) cc (.lst (ps2.map V.ref ++ [.ref g]))) g (m, t) := ((ea.trans eb).tz Lsts.nil gz).sq
          have RB := RA.ext eb Lsts.nil (by simp) (by simp)
          have eB := ((e38.trans e9).trans (eg.trans (ea.trans eb)).weak)
          have PB := P9.ext0 (eg.trans (ea.trans eb))
          have hpsB : Paired (MvV K (upd (upd G l1 (.lst [.ref g])) cc (.lst (ps2.map V.ref ++ [.ref g])))) ps2 (mvs b s) := Paired.imp hps2 fun _ _ z => MvV.ext0 z eb
          refine ⟨cc, ps2 ++ [g], mvs b s ++ [(m, t)], rfl, .of (by rw [upd_same, List.map_append]; rfl), Paired.snoc gm hpsB, by rw [List.length_append]; show ps2.length + 1 < 64; omega, fun y hy => ?_, fun qs M so2 hM pM sM hso2 => ?_⟩
          · rcases List.mem_append.mp hy with hy | hy
            · have := so5.msg y hy
              have := so5.to y hy
              omega
            · rw [List.mem_singleton.mp hy]
              show m < 100 ∧ t < 100
              omega
          generalize upd (upd G l1 (.lst [.ref g])) cc (.lst (ps2.map V.ref ++ [.ref g])) = HB at *
          have ec : Ext [] HB (upd HB so2 (.lst (qs.map V.ref))) := .new hso2
          have RC := RB.ext ec Lsts.nil (by simp) (by simp)
          have Dso : D ≠ so2 := ne_of_none RB.at_ hso2
          refine ⟨_, rfl, _, rfl, D, _, _, s, rfl, rfl, RC.at_, ixNat (by rw [List.length_map, Paired.len RC.st]; exact hsb), ?_⟩
          refine ⟨M, _, rfl, so5.more l4 hno (by omega) (by omega) (by omega) pM sM, ⟨D, _, rfl, upd_same, ?_⟩, (PB.ext0 ec).put (P0.off hD).1 (P0.off hD).2, (eB.trans ec.weak).put' hD⟩
          refine Paired.of_get (by rw [List.length_set, List.length_set, List.length_map]; exact Paired.len RC.st) fun i2 y st h1 h2 => ?_
          rw [List.getElem?_set] at h1 h2
          by_cases ei : s = i2
          · subst ei
            rw [if_pos rfl, if_pos (by rw [List.length_map, Paired.len RC.st]; exact hsb)] at h1
            rw [if_pos rfl, if_pos hsb] at h2
            cases h1
            cases h2
            exact ⟨so2, qs, rfl, by rw [upd_ne Dso.symm, upd_same], Paired.imp hM fun _ _ z => (MvV.ext0 z ec).put RC.at_⟩
          · rw [if_neg ei] at h1 h2
            obtain ⟨a2, ha2, rfl⟩ := map_at h1
            obtain ⟨s', e1', qs', e2', e3'⟩ := Paired.get' RC.st ha2
            rw [h2] at e1'
            cases e1'
            have : a2 ≠ D := fun z => RC.off (by rw [← z]; exact List.mem_of_getElem? ha2)
            exact ⟨a2, qs', rfl, by rw [upd_ne this]; exact e2', Paired.imp e3' fun _ _ z => z.put RC.at_⟩
    · rintro σ H7 ⟨st, y7, rfl, hst, hL, P7, e7⟩
      have len2 : (b.set s st).length = b.length := List.length_set
      have each : ∀ j, StOk b.length (mvs (b.set s st) j) := fun j => by
        rw [mvs_set hsb]
        split
        · exact hst
        · by_cases hj : j < b.length
          · exact fb.ok hj
          · rw [mvs_out (by omega)]
            exact ⟨Nat.zero_le _, .nil, fun p hp => (nomatch hp), fun p hp => (nomatch hp)⟩
      refine ⟨_, rfl, .ref D, b.set s st, rfl, hL, by omega, by omega, fun j => ⟨by have := (each j).few; omega, fun z hz => by rw [len2]; exact (each j).to z hz⟩, fun F v H8 mt hbk e8 => ?_⟩
      exact q _ v H8 (mt.okB (by omega) fun j hj => ⟨(each j).few, (each j).rise, (each j).msg⟩) hbk (P7.ext0 e8) (e7.trans e8.weak)
end
end Nv
set_option Elab.async false
set_option linter.all false
set_option maxRecDepth 100000
/-! t + u, giving a tuple known to have no dict of its own -/
namespace Nv
open PySem PySem.Spec PyProof.Rows L2
/-- t + u, where t has some member; t + () is t itself -/
def rCatZ (K : PySem.W.Frag) : R2 := fun x y H Q => ∃ a b xs ys, x = .ref a ∧ y = .ref b ∧ SqT K H a xs ∧ SqT K H b ys ∧ xs ≠ [] ∧ xs.length + ys.length ≤ sizeLine ∧ (ys = [] → Q (.ref a) H) ∧
  (ys ≠ [] → ∀ (p : Addr) (H' : Hp), H p = none → (∃ o : Obj, o.dict = none ∧ H' = upd H p (.frz o (.tup (xs ++ ys)))) → Q (.ref p) H')
theorem op_catZ {X : Cx} : OpR X (binaryOp .Add) (rCatZ X.K) := by
  intro pins s σ H x y v u Q I rx ry h
  obtain ⟨a, b, xs, ys, rfl, rfl, ha, hb, hx, hz, q1, q2⟩ := h
  cases rx
  cases ry
  obtain ⟨its, r1, p1, _⟩ := I.tuple ha
  obtain ⟨its2, r2, p2, _⟩ := I.tuple hb
  refine HT.cat_tup p1 p2 (fun z => hx (r1.nil_iff.mp z)) (fun z => ⟨.ref a, H, I, rfl, q1 (r2.nil_iff.mp z)⟩) (fun z => ?_) (by rw [← r1.length, ← r2.length]; exact hz)
  refine ⟨.ref s.heap.objs.size, _, I.laid (t' := s.toks) (o := .frz { cls := .type "tuple", data := .seq (its ++ its2).toArray } (.tup (xs ++ ys))) (fun b ob q => Heap.get?_push_of_some _ q) (Nat.le_refl _) ?_, rfl, q2 (fun w => z (r2.nil_iff.mpr w)) _ _ (I.hok.fresh (Nat.le_refl _)) ⟨_, rfl, rfl⟩⟩
  exact ⟨Heap.get?_push_size _ rfl, by rw [List.length_append]; exact hz, _, r1.append r2, IsTup.new _ _⟩
theorem op_catZK (K : PySem.W.Frag) {X : Cx} (h : X.K = K := by rfl) : OpR X (binaryOp .Add) (rCatZ K) := by
  subst h
  exact op_catZ
end Nv
set_option Elab.async false
set_option linter.all false
set_option maxRecDepth 100000
/-! the books that k05's law writes out, and what is to be told of them -/
namespace Nv
open PySem PySem.Spec PyProof.Rows L2
def tillB : Book := [[(0, 0), (1, 1)], []]
def longB : Book := [[(0, 1), (1, 2)], [(0, 0), (1, 3)], [], []]
def oneB : Book := [[(0, 0), (1, 0)]]
def ringB (n : Nat) : Book := (List.range n).map fun a => (0, (a + 1) % n) :: if a = 6 then [(1, 0)] else []
theorem r7_part : partP tillB oneB = some [1, 0] := by decide +kernel
theorem r7_in : withinP longB tillB = true := by decide +kernel
theorem r7_rings : partP (ringB 7) (ringB 8) = some (List.replicate 13 0 ++ [1]) := by decide +kernel
theorem r7_in78 : withinP (ringB 7) (ringB 8) = false := by decide +kernel
theorem r7_in87 : withinP (ringB 8) (ringB 7) = false := by decide +kernel
theorem okB_of {b : Book} (h1 : 1 ≤ b.length) (h8 : b.length ≤ 8) (hs : ∀ s ∈ b, s.length ≤ 5 ∧ (s.map (·.1)).Pairwise (· < ·) ∧ (∀ p ∈ s, p.1 ≤ 99) ∧ ∀ p ∈ s, p.2 < b.length)
    (hr : ∀ s < b.length, s = 0 ∨ ∃ t < s, ∃ p ∈ mvs b t, p.2 = s) : OkB b where
  one := h1
  eight := h8
  st := fun s m => ⟨(hs s m).1, (hs s m).2.1, (hs s m).2.2.1, (hs s m).2.2.2⟩
  reach := fun s => by
    induction s using Nat.strongRecOn with
    | ind s ih =>
      intro h
      rcases hr s h with e | ⟨t, ht, p, hp, e⟩
      · rw [e]
        exact .zero
      · rw [← e]
        exact .step (ih t ht (by omega)) hp
theorem r7_till : OkB tillB := okB_of (by decide) (by decide) (by decide +kernel) (by decide +kernel)
theorem r7_long : OkB longB := okB_of (by decide) (by decide) (by decide +kernel) (by decide +kernel)
theorem r7_one : OkB oneB := okB_of (by decide) (by decide) (by decide +kernel) (by decide +kernel)
theorem r7_ring7 : OkB (ringB 7) := okB_of (by decide) (by decide) (by decide +kernel) (by decide +kernel)
theorem r7_ring8 : OkB (ringB 8) := okB_of (by decide) (by decide) (by decide +kernel) (by decide +kernel)
theorem r7_red : Red tillB := fun R hR s t hs ht h => by
  have e := (hR s t h).1
  have hs' : s < 2 := hs
  have ht' : t < 2 := ht
  rcases s with _ | _ | s
  · rcases t with _ | _ | t
    · rfl
    · exact absurd e (by decide)
    · omega
  · rcases t with _ | _ | t
    · exact absurd e (by decide)
    · rfl
    · omega
  · omega
theorem r7_lst : LstB tillB tillB (fun s => s) where
  ok := r7_till
  hom := ⟨rfl, fun _ h => h, fun s _ => by rw [show (fun p : Nat × Nat => (p.1, p.2)) = id from rfl, List.map_id]⟩
  crs := r7_red
  ord := by
    show ordB tillB = _
    decide +kernel
theorem r7_bis : Bis2 longB tillB fun s t => (s, t) ∈ [(0, 0), (1, 0), (2, 1), (3, 1)] := fun s t h => by
  have z : ∀ e ∈ [(0, 0), (1, 0), (2, 1), (3, 1)], (mvs longB e.1).map (·.1) = (mvs tillB e.2).map (·.1) ∧ ∀ x ∈ (mvs longB e.1).zip (mvs tillB e.2), (x.1.2, x.2.2) ∈ [(0, 0), (1, 0), (2, 1), (3, 1)] := by decide +kernel
  refine ⟨(z _ h).1, fun i p q hp hq => (z _ h).2 (p, q) ?_⟩
  refine List.mem_of_getElem? (i := i) ?_
  rw [List.getElem?_zip_eq_some]
  exact ⟨hp, hq⟩
theorem r7_least {c : Book} {f : Nat → Nat} (h : LstB longB c f) : c = tillB := lst_same r7_long r7_till h r7_lst r7_bis (by decide)
end Nv
set_option Elab.async false
set_option linter.all false
set_option maxRecDepth 100000
namespace Nv
open PySem PySem.Spec PyProof.Rows L2
section
variable {P : Program} {w : World} {K : PySem.W.Frag} {mg : Str → Option Value} {base : Heap}
/-! ### the law -/
def spLaw (K : PySem.W.Frag) : Sp := fun vs H Q _ => ∃ (a : Addr) (ns : List Int), vs = [.ref a] ∧ SqL K H a (ns.map V.int) ∧ ns.length ≤ 63 ∧ ∀ H', Q (.bl true) H'
theorem sc_law : FnScope ["script", "pool", "till", "long", "rings", "book", "copied", "others", "size", "at", "other"] ["script"] (defScope s_law) := ⟨rfl, rfl, rfl, by decide +kernel, rfl, by decide +kernel, by decide +kernel⟩
theorem ok_law (T : Tx K mg) : FnG P w K mg base CX0 10 T.law.f T.law.fd ["script"] (spLaw K) := by
  refine FunG.ok T.law.F sc_law (fun vs H Q E h => ?_) (fun cdv A outer s H vs Q E hG hr h => ?_)
  · obtain ⟨a, ns, rfl, _⟩ := h; rfl
  · obtain ⟨sa, ns, rfl, hs, hn, q⟩ := h
    refine ⟨_, (pss_cons (ps_set (i := 1) sc_law.nd rfl (.inl rfl) (pe_call (ok_law_pool T) (hr.mono (by decide)) (by rfl) T.law_pool.g T.law_pool.F.kp T.law_pool.b .nil pass0 (pa_cons (pv 0) pa_nil)))
      (pss_cons (ps_asg (pe_tupZ (pa_cons (pe_tupZ (pa_cons (pe_tupZ (pa_cons (pe_tupZ (pa_cons pe_int (pa_cons pe_int pa_nil))) (pa_cons (pe_tupZ (pa_cons pe_int (pa_cons pe_int pa_nil))) pa_nil))) (pa_cons (pe_tupZ pa_nil) pa_nil))) (pa_cons (pe_tupZ (pa_cons (pe_tupZ (pa_cons (pe_tupZ (pa_cons pe_int (pa_cons pe_int pa_nil))) (pa_cons (pe_tupZ (pa_cons pe_int (pa_cons pe_int pa_nil))) pa_nil))) (pa_cons (pe_tupZ (pa_cons (pe_tupZ (pa_cons pe_int (pa_cons pe_int pa_nil))) (pa_cons (pe_tupZ (pa_cons pe_int (pa_cons pe_int pa_nil))) pa_nil))) (pa_cons (pe_tupZ pa_nil) (pa_cons (pe_tupZ pa_nil) pa_nil))))) pa_nil))) (pg_tup rfl (pgs_cons (pg_name (i := 2) sc_law.nd rfl (.inl rfl)) (pgs_cons (pg_name (i := 3) sc_law.nd rfl (.inl rfl)) pgs_nil))))
      (pss_cons (ps_if (PW.pt (pw_or (pt_cmpR (op_neD (hr.units)) (pe_call (okM_least_book T) (hr.mono (by decide)) (by rfl) T.least_book.g T.least_book.F.kp T.least_book.b .nil pass0 (pa_cons (pv 3) pa_nil)) (pv 2) (nomark _)) (pw_or (pt_cmpR (op_neD (hr.units)) (pe_call (ok_part_row T) (hr.mono (by decide)) (by rfl) T.part_row.g T.part_row.F.kp T.part_row.b .nil pass0 (pa_cons (pv 2) (pa_cons (pe_tupZ (pa_cons (pe_tupZ (pa_cons (pe_tupZ (pa_cons pe_int (pa_cons pe_int pa_nil))) (pa_cons (pe_tupZ (pa_cons pe_int (pa_cons pe_int pa_nil))) pa_nil))) pa_nil)) pa_nil))) (pe_tupZ (pa_cons pe_int (pa_cons pe_int pa_nil))) (nomark _)) (pw_or1 (pt_cmpR op_notBl (pe_call (ok_within T) (hr.mono (by decide)) (by rfl) T.within.g T.within.F.kp T.within.b .nil pass0 (pa_cons (pv 3) (pa_cons (pv 2) pa_nil))) pe_bl (nomark _))))))
        (pss_one (ps_ret pe_bl))
        pss_nil)
      (pss_cons (ps_setLc (i := 4) (own := [("size", 8)]) rfl sc_law.nd rfl rfl (sw_true rfl rfl rfl (by decide +kernel)) (pi_list (pe_lst (pa_cons pe_int (pa_cons pe_int pa_nil)))) (blkOk_by (own := [("size", 8)]) (N := ["script", "pool", "till", "long", "rings", "book", "copied", "others", "size", "at", "other"]) (sc := defScope s_law) (by decide +kernel)) (fun _ _ _ _ _ => (pg_name (i := 8) sc_law.nd rfl (.inr rfl))) (fun _ _ _ _ _ => pts_nil) (fun _ _ _ _ _ => (pe_callTy (call_tupZK K) (by rfl) T.n_tuple (by decide +kernel) (pa_cons (pe_lc (own := [("at", 9)]) rfl sc_law.nd (pi_range1 (by rfl) T.n_range (pa_cons (pv 8) pa_nil)) (blkOk_by (own := [("at", 9)]) (by kernel_rfl)) (fun _ _ _ _ _ => (pg_name (i := 9) sc_law.nd rfl (.inl rfl))) (fun _ _ _ _ _ => pts_nil) (fun _ _ _ _ _ => (pe_mid (pe_op (op_catZK K) (pe_tupZ (pa_cons (pe_tupZ (pa_cons pe_int (pa_cons (pe_op op_mod (pe_callTy call_int1 (by rfl) T.n_int (by decide +kernel) (pa_cons (pe_op op_add (pv 9) pe_int) pa_nil)) (pv 8)) pa_nil))) pa_nil)) (pe_mid (pe_ifExp (pt_cmpR op_eq (pv 9) pe_int (nomark _)) (pe_tupZ (pa_cons (pe_tupZ (pa_cons pe_int (pa_cons pe_int pa_nil))) pa_nil)) (pe_tupZ pa_nil))))))) pa_nil))))
      (pss_cons (ps_if (PW.pt (pw_or (pt_cmpR (op_neD (hr.units)) (pe_call (ok_part_row T) (hr.mono (by decide)) (by rfl) T.part_row.g T.part_row.F.kp T.part_row.b .nil pass0 (pa_cons (pe_ix ix_list (pv 4) pe_int (fun _ _ => rfl)) (pa_cons (pe_ix ix_list (pv 4) pe_int (fun _ _ => rfl)) pa_nil))) (pe_op op_catZ (pe_op op_repT (pe_tupZ (pa_cons pe_int pa_nil)) pe_int) (pe_tupZ (pa_cons pe_int pa_nil))) (nomark _)) (pw_or1 (pt_cmpR op_notBl (pe_call (ok_alike T) (hr.mono (by decide)) (by rfl) T.alike.g T.alike.F.kp T.alike.b .nil pass0 (pa_cons (pe_ix ix_list (pv 4) pe_int (fun _ _ => rfl)) (pa_cons (pe_ix ix_list (pv 4) pe_int (fun _ _ => rfl)) pa_nil))) pe_bl (nomark _)))))
        (pss_one (ps_ret pe_bl))
        pss_nil)
      (pss_cons (ps_if (PW.pt (pw_or (pt_cmpR op_notBl (pe_call (ok_within T) (hr.mono (by decide)) (by rfl) T.within.g T.within.F.kp T.within.b .nil pass0 (pa_cons (pe_ix ix_list (pv 4) pe_int (fun _ _ => rfl)) (pa_cons (pe_ix ix_list (pv 4) pe_int (fun _ _ => rfl)) pa_nil))) pe_bl (nomark _)) (pw_or1 (pt_cmpR op_notBl (pe_call (ok_within T) (hr.mono (by decide)) (by rfl) T.within.g T.within.F.kp T.within.b .nil pass0 (pa_cons (pe_ix ix_list (pv 4) pe_int (fun _ _ => rfl)) (pa_cons (pe_ix ix_list (pv 4) pe_int (fun _ _ => rfl)) pa_nil))) pe_bl (nomark _)))))
        (pss_one (ps_ret pe_bl))
        pss_nil)
      (pss_cons (ps_set (i := 5) sc_law.nd rfl (.inr rfl) (pe_call (ok_law_book_drawn T) (hr.mono (by decide)) (by rfl) T.law_book_drawn.g T.law_book_drawn.F.kp T.law_book_drawn.b .nil pass0 (pa_cons (pv 1) (pa_cons pe_int (pa_cons pe_int pa_nil)))))
      (pss_cons (ps_set (i := 6) sc_law.nd rfl (.inl rfl) (pe_ix ix_list (pe_call (ok_law_book_renamed T) (hr.mono (by decide)) (by rfl) T.law_book_renamed.g T.law_book_renamed.F.kp T.law_book_renamed.b .nil pass0 (pa_cons (pv 1) (pa_cons (pe_call (ok_law_book_copied T) (hr.mono (by decide)) (by rfl) T.law_book_copied.g T.law_book_copied.F.kp T.law_book_copied.b .nil pass0 (pa_cons (pv 1) (pa_cons (pv 5) (pa_cons pe_int pa_nil)))) pa_nil))) pe_int (fun _ _ => rfl)))
      (pss_cons (ps_if (PW.pt (pw_or (pt_not (pt_val (pe_callG (ok_law_least_right T) hG (hr.mono (by decide)) (by rfl) T.law_least_right.g T.law_least_right.F.kp T.law_least_right.b .nil pass0 (pa_cons (pv 5) pa_nil)))) (pw_or (pt_not (pt_val (pe_callG (ok_law_least_right T) hG (hr.mono (by decide)) (by rfl) T.law_least_right.g T.law_least_right.F.kp T.law_least_right.b .nil pass0 (pa_cons (pv 6) pa_nil)))) (pw_or1 (pt_cmpR op_ne (pe_callB (call_reprA hr.units hG) (by rfl) T.n_repr (by decide +kernel) (pa_cons (pe_call (okM_least_book T) (hr.mono (by decide)) (by rfl) T.least_book.g T.least_book.F.kp T.least_book.b .nil pass0 (pa_cons (pv 6) pa_nil)) pa_nil)) (pe_callB (call_reprA hr.units hG) (by rfl) T.n_repr (by decide +kernel) (pa_cons (pe_call (okM_least_book T) (hr.mono (by decide)) (by rfl) T.least_book.g T.least_book.F.kp T.least_book.b .nil pass0 (pa_cons (pv 5) pa_nil)) pa_nil)) (nomark _))))))
        (pss_one (ps_ret pe_bl))
        pss_nil)
      (pss_cons (ps_set (i := 7) sc_law.nd rfl (.inl rfl) (pe_lst (pa_cons (pv 6) (pa_cons (pe_call (ok_law_led_elsewhere T) (hr.mono (by decide)) (by rfl) T.law_led_elsewhere.g T.law_led_elsewhere.F.kp T.law_led_elsewhere.b .nil pass0 (pa_cons (pv 1) (pa_cons (pv 6) pa_nil))) (pa_cons (pe_call (ok_law_led_elsewhere T) (hr.mono (by decide)) (by rfl) T.law_led_elsewhere.g T.law_led_elsewhere.F.kp T.law_led_elsewhere.b .nil pass0 (pa_cons (pv 1) (pa_cons (pv 5) pa_nil))) (pa_cons (pe_call (ok_law_book_drawn T) (hr.mono (by decide)) (by rfl) T.law_book_drawn.g T.law_book_drawn.F.kp T.law_book_drawn.b .nil pass0 (pa_cons (pv 1) (pa_cons pe_int (pa_cons pe_int pa_nil)))) pa_nil))))))
      (pss_one (ps_ret (pe_cmpR (op_eqD (hr.units)) (pe_lc (own := [("other", 10)]) rfl sc_law.nd (pi_list (pv 7)) (blkOk_by (own := [("other", 10)]) (N := ["script", "pool", "till", "long", "rings", "book", "copied", "others", "size", "at", "other"]) (sc := defScope s_law) (by decide +kernel)) (fun _ _ _ _ _ => (pg_name (i := 10) sc_law.nd rfl (.inl rfl))) (fun _ _ _ _ _ => pts_one (pt_mid (pt_not (pt_val (pe_callG (ok_law_two_right T) hG (hr.mono (by decide)) (by rfl) T.law_two_right.g T.law_two_right.F.kp T.law_two_right.b .nil pass0 (pa_cons (pv 5) (pa_cons (pv 10) pa_nil))))))) (fun _ _ _ _ _ => (pv 10))) (pe_lst pa_nil) (nomark _)))))))))))))), ?_⟩
    refine ⟨_, rfl, sa, ns, rfl, hs, hn, fun p l H1 hp hl P1 e1 => ?_⟩
    refine ⟨(by show 2 ≤ sizeLine; decide), fun g1 G1 hg1 hG1 => ?_⟩
    obtain ⟨z1, x1⟩ := newZ' (K := K) hg1 hG1
    refine ⟨(by show 2 ≤ sizeLine; decide), fun g2 G2 hg2 hG2 => ?_⟩
    obtain ⟨z2, x2⟩ := newZ' (K := K) hg2 hG2
    refine ⟨(by show 2 ≤ sizeLine; decide), fun g3 G3 hg3 hG3 => ?_⟩
    obtain ⟨z3, x3⟩ := newZ' (K := K) hg3 hG3
    refine ⟨(by show 0 ≤ sizeLine; decide), fun g4 G4 hg4 hG4 => ?_⟩
    obtain ⟨z4, x4⟩ := newZ' (K := K) hg4 hG4
    refine ⟨(by show 2 ≤ sizeLine; decide), fun g5 G5 hg5 hG5 => ?_⟩
    obtain ⟨z5, x5⟩ := newZ' (K := K) hg5 hG5
    refine ⟨(by show 2 ≤ sizeLine; decide), fun g6 G6 hg6 hG6 => ?_⟩
    obtain ⟨z6, x6⟩ := newZ' (K := K) hg6 hG6
    refine ⟨(by show 2 ≤ sizeLine; decide), fun g7 G7 hg7 hG7 => ?_⟩
    obtain ⟨z7, x7⟩ := newZ' (K := K) hg7 hG7
    refine ⟨(by show 2 ≤ sizeLine; decide), fun g8 G8 hg8 hG8 => ?_⟩
    obtain ⟨z8, x8⟩ := newZ' (K := K) hg8 hG8
    refine ⟨(by show 2 ≤ sizeLine; decide), fun g9 G9 hg9 hG9 => ?_⟩
    obtain ⟨z9, x9⟩ := newZ' (K := K) hg9 hG9
    refine ⟨(by show 2 ≤ sizeLine; decide), fun g10 G10 hg10 hG10 => ?_⟩
    obtain ⟨z10, x10⟩ := newZ' (K := K) hg10 hG10
    refine ⟨(by show 2 ≤ sizeLine; decide), fun g11 G11 hg11 hG11 => ?_⟩
    obtain ⟨z11, x11⟩ := newZ' (K := K) hg11 hG11
    refine ⟨(by show 0 ≤ sizeLine; decide), fun g12 G12 hg12 hG12 => ?_⟩
    obtain ⟨z12, x12⟩ := newZ' (K := K) hg12 hG12
    refine ⟨(by show 0 ≤ sizeLine; decide), fun g13 G13 hg13 hG13 => ?_⟩
    obtain ⟨z13, x13⟩ := newZ' (K := K) hg13 hG13
    refine ⟨(by show 4 ≤ sizeLine; decide), fun g14 G14 hg14 hG14 => ?_⟩
    obtain ⟨z14, x14⟩ := newZ' (K := K) hg14 hG14
    have ea_14 : Ext [] G14 G14 := .refl
    have ea_13 : Ext [] G13 G14 := x14.trans ea_14
    have ea_12 : Ext [] G12 G14 := x13.trans ea_13
    have ea_11 : Ext [] G11 G14 := x12.trans ea_12
    have ea_10 : Ext [] G10 G14 := x11.trans ea_11
    have ea_9 : Ext [] G9 G14 := x10.trans ea_10
    have ea_8 : Ext [] G8 G14 := x9.trans ea_9
    have ea_7 : Ext [] G7 G14 := x8.trans ea_8
    have ea_6 : Ext [] G6 G14 := x7.trans ea_7
    have ea_5 : Ext [] G5 G14 := x6.trans ea_6
    have ea_4 : Ext [] G4 G14 := x5.trans ea_5
    have ea_3 : Ext [] G3 G14 := x4.trans ea_4
    have ea_2 : Ext [] G2 G14 := x3.trans ea_3
    have ea_1 : Ext [] G1 G14 := x2.trans ea_2
    have kt : BkV K G14 (.ref g5) tillB := ⟨g5, [.ref g3, .ref g4], rfl, (ea_5.tz Lsts.nil z5).sq, .cons (⟨g3, [g1, g2], rfl, ea_3.tz Lsts.nil z3, .cons ((ea_1.tz Lsts.nil z1).sq) (.cons ((ea_2.tz Lsts.nil z2).sq) (.nil))⟩) (.cons (⟨g4, [], rfl, ea_4.tz Lsts.nil z4, .nil⟩) (.nil))⟩
    have kl : BkV K G14 (.ref g14) longB := ⟨g14, [.ref g8, .ref g11, .ref g12, .ref g13], rfl, (ea_14.tz Lsts.nil z14).sq, .cons (⟨g8, [g6, g7], rfl, ea_8.tz Lsts.nil z8, .cons ((ea_6.tz Lsts.nil z6).sq) (.cons ((ea_7.tz Lsts.nil z7).sq) (.nil))⟩) (.cons (⟨g11, [g9, g10], rfl, ea_11.tz Lsts.nil z11, .cons ((ea_9.tz Lsts.nil z9).sq) (.cons ((ea_10.tz Lsts.nil z10).sq) (.nil))⟩) (.cons (⟨g12, [], rfl, ea_12.tz Lsts.nil z12, .nil⟩) (.cons (⟨g13, [], rfl, ea_13.tz Lsts.nil z13, .nil⟩) (.nil))))⟩
    refine ⟨(by show 2 ≤ sizeLine; decide), fun g15 G15 hg15 hG15 => ?_⟩
    obtain ⟨z15, x15⟩ := newZ' (K := K) hg15 hG15
    have ht := kt.ext0 x15
    have hlg := kl.ext0 x15
    refine ⟨g15, _, rfl, z15.sq, rfl, _, _, rfl, _, _, rfl, rfl, ?_⟩
    have P2 := (((P1.ext0 x1).ext0 (ea_1)).ext0 x15)
    -- least_book(long) != till
    refine ⟨_, rfl, _, longB, rfl, hlg, r7_long, fun c f v' H2 hc hv e2 => ?_⟩
    obtain rfl := r7_least hc
    refine ⟨_, rfl, _, _, hv.wk.dp, (ht.ext0 e2).wk.dp, shaped_book _, shaped_book _, ?_⟩
    rw [eqv_book, decide_eq_true rfl]
    refine ⟨_, rfl, iteF ?_⟩
    clear hc f hG15 hg15
    -- part_row(till, one)
    refine ⟨_, rfl, ?_⟩
    refine ⟨(by show 2 ≤ sizeLine; decide), fun g16 G16 hg16 hG16 => ?_⟩
    obtain ⟨z16, x16⟩ := newZ' (K := K) hg16 hG16
    refine ⟨(by show 2 ≤ sizeLine; decide), fun g17 G17 hg17 hG17 => ?_⟩
    obtain ⟨z17, x17⟩ := newZ' (K := K) hg17 hG17
    refine ⟨(by show 2 ≤ sizeLine; decide), fun g18 G18 hg18 hG18 => ?_⟩
    obtain ⟨z18, x18⟩ := newZ' (K := K) hg18 hG18
    refine ⟨(by show 1 ≤ sizeLine; decide), fun g19 G19 hg19 hG19 => ?_⟩
    obtain ⟨z19, x19⟩ := newZ' (K := K) hg19 hG19
    have f19 : Ext [] G19 G19 := .refl
    have f18 := x19.trans f19
    have f17 := x18.trans f18
    have f16 := x17.trans f17
    have f2 := x16.trans f16
    have k1 : BkV K G19 (.ref g19) oneB := ⟨g19, [.ref g18], rfl, z19.sq, .cons ⟨g18, [g16, g17], rfl, f18.tz Lsts.nil z18, .cons (f16.tz Lsts.nil z16).sq (.cons (f17.tz Lsts.nil z17).sq .nil)⟩ .nil⟩
    refine ⟨_, _, tillB, oneB, rfl, (ht.ext0 e2).ext0 f2, r7_till, k1, r7_one, fun y H3 hy e3 => ?_⟩
    rw [r7_part] at hy
    refine ⟨(by show 2 ≤ sizeLine; decide), fun g20 G20 hg20 hG20 => ?_⟩
    obtain ⟨z20, x20⟩ := newZ' (K := K) hg20 hG20
    have k2 : OrV K G20 (.ref g20) (some [1, 0]) := .inr ⟨g20, [1, 0], rfl, rfl, z20.sq⟩
    refine ⟨_, _, (hy.ext x20 Lsts.nil).dp, k2.dp, (by decide +kernel), (by decide +kernel), ?_⟩
    rw [show PyData.eqv (rowD (some [1, 0])) (rowD (some [1, 0])) = true by decide +kernel]
    refine ⟨_, rfl, iteF ?_⟩
    have e20 : Ext [] G15 G20 := ((e2.trans f2).trans e3).trans x20
    -- within(long, till) is not True
    refine ⟨_, rfl, _, rfl, _, _, longB, tillB, rfl, hlg.ext0 e20, r7_long, ht.ext0 e20, r7_till, fun H4 e4 => ?_⟩
    rw [r7_in]
    refine ⟨true, true, rfl, rfl, _, rfl, iteF ?_⟩
    -- rings
    have e4' := e20.trans e4
    clear hG16 hg16 hG17 hg17 hG18 hg18 hG19 hg19 hG20 hg20
    refine ⟨(by show 2 ≤ sizeLine; decide), fun a7 na7 => ⟨a7, rfl, ⟨_, .of upd_same⟩, fun D hD => ?_⟩⟩
    have x5 : Ext [] H4 (upd H4 a7 (.lst [.int 7, .int 8])) := .new na7
    have nD : D ≠ a7 := (ne_of_none (H := upd H4 a7 (.lst [.int 7, .int 8])) upd_same hD).symm
    have h7 : upd H4 a7 (.lst [.int 7, .int 8]) a7 = some (.lst [.int 7, .int 8]) := upd_same
    generalize upd H4 a7 (.lst [.int 7, .int 8]) = H5 at *
    refine lc_list (K := K) (a := a7) (xs := [.int 7, .int 8]) (fun i H' => ∃ vs : List V, H' D = some (.lst vs) ∧ Paired (BkV K H') vs (([7, 8].take i).map ringB) ∧ Ext [] H5 H') ⟨[], upd_same, .nil, .new hD⟩ (fun i H' _ ⟨_, _, _, e⟩ => .of (e.at h7 (by simp))) ?_ ?_
    · rintro i v H6 hv ⟨vs, hDv, hpd, e6⟩
      obtain ⟨n, hn7, hn8, hin, rfl⟩ : ∃ n : Nat, 7 ≤ n ∧ n ≤ 8 ∧ [7, 8][i]? = some n ∧ v = .int n := by
        rcases i with _ | _ | i
        · exact ⟨7, by omega, by omega, rfl, (Option.some.inj hv).symm⟩
        · exact ⟨8, by omega, by omega, rfl, (Option.some.inj hv).symm⟩
        · simp at hv
      refine ⟨rfl, yes ?_⟩
      refine ⟨_, rfl, n, rfl, by omega, by omega, fun D2 hD2 => ?_⟩
      have hD2H : H5 D2 = none := e6.free hD2
      rw [Int.toNat_natCast]
      refine lc_range (lo := 0) (n := n) (fun k H' => ∃ us : List V, H' D2 = some (.lst us) ∧ Paired (StV K H') us ((ringB n).take k) ∧ Ext [] H6 H') ⟨[], upd_same, .nil, .new hD2⟩ ?_ ?_
      · rintro k H7 hk ⟨us, hq, hqp, e7⟩
        have hrb : (ringB n)[k]? = some ((0, (k + 1) % n) :: if k = 6 then [(1, 0)] else []) := by
          unfold ringB
          rw [List.getElem?_map, List.getElem?_range hk]
          rfl
        have ulen : us.length = k := by
          rw [Paired.len hqp, List.length_take]
          unfold ringB
          rw [List.length_map, List.length_range]
          omega
        refine ⟨rfl, yes ?_⟩
        refine ⟨fun v H' => StV K H' v ((0, (k + 1) % n) :: if k = 6 then [(1, 0)] else []) ∧ Ext [] H7 H', ?_, ?_⟩
        · refine ⟨_, rfl, _, _, rfl, rfl, .inl ⟨_, rfl, _, rfl, _, _, rfl, rfl, (by show (0 : Int) < (n : Int); omega), (by show 2 ≤ sizeLine; decide), fun b1 B1 hb1 hB1 => ?_⟩⟩
          dsimp only at hB1
          rw [show ((0 : Int) + (k : Int) + 1) % (n : Int) = (((k + 1) % n : Nat) : Int) by rw [Int.zero_add, Int.natCast_emod]; rfl] at hB1
          obtain ⟨y1, w1⟩ := newZ' (K := K) hb1 hB1
          refine ⟨(by show 1 ≤ sizeLine; decide), fun b2 B2 hb2 hB2 => ?_⟩
          obtain ⟨y2, w2⟩ := newZ' (K := K) hb2 hB2
          refine ⟨fun u H' => ∃ (a : Addr) (ps : List Addr), u = .ref a ∧ TupZ H' a (ps.map V.ref) ∧ Paired (MvV K H') ps (if k = 6 then [(1, 0)] else []) ∧ Ext [] B2 H', ⟨_, rfl, rfl, _, rfl, ?_⟩, ?_⟩
          · rw [Int.zero_add, dec_int]
            refine ifB (fun hk6 => ?_) (fun hk6 => ?_)
            · have hk6 : k = 6 := by have := of_decide_eq_true hk6; omega
              refine ⟨(by show 2 ≤ sizeLine; decide), fun b3 B3 hb3 hB3 => ?_⟩
              obtain ⟨y3, w3⟩ := newZ' (K := K) hb3 hB3
              refine ⟨(by show 1 ≤ sizeLine; decide), fun b4 B4 hb4 hB4 => ?_⟩
              obtain ⟨y4, w4⟩ := newZ' (K := K) hb4 hB4
              rw [if_pos hk6]
              exact ⟨b4, [b3], rfl, y4, .cons (w4.tz Lsts.nil y3).sq .nil, w3.trans w4⟩
            · have hk6 : k ≠ 6 := fun z => by rw [z] at hk6; simp at hk6
              refine ⟨(by show 0 ≤ sizeLine; decide), fun b3 B3 hb3 hB3 => ?_⟩
              obtain ⟨y3, w3⟩ := newZ' (K := K) hb3 hB3
              rw [if_neg hk6]
              exact ⟨b3, [], rfl, y3, .nil, w3⟩
          · rintro u B3 ⟨a, ps, rfl, y3, hps, w3⟩
            have mv1 : MvV K B3 b1 (0, (k + 1) % n) := ((w2.trans w3).tz Lsts.nil y1).sq
            refine ⟨b2, a, [.ref b1], ps.map V.ref, rfl, rfl, (w3.tz Lsts.nil y2).sq, y3.sq, (by simp), ?_, fun e0 => ?_, fun _ b4 B4 hb4 hB4 => ?_⟩
            · rw [List.length_map, Paired.len hps]
              show 1 + _ ≤ sizeLine
              exact Nat.le_of_lt (small1000 (by split <;> simp))
            · have ps0 : ps = [] := by simpa using e0
              subst ps0
              cases hps' : (if k = 6 then [((1 : Nat), (0 : Nat))] else []) with
              | nil =>
                exact ⟨⟨b2, [b1], rfl, w3.tz Lsts.nil y2, .cons mv1 .nil⟩, (w1.trans w2).trans w3⟩
              | cons _ _ => rw [hps'] at hps; cases hps
            · obtain ⟨y4, w4⟩ := newZ' (K := K) hb4 hB4
              exact ⟨⟨b4, b1 :: ps, rfl, y4, .cons (mv1.ext0 w4) (Paired.imp hps fun _ _ z => z.ext0 w4)⟩, ((w1.trans w2).trans w3).trans w4⟩
        · rintro u H8 ⟨hu, e8⟩
          refine ⟨us, e8.at hq (by simp), ?_, us ++ [u], upd_same, ?_, (e7.trans e8).put hD2⟩
          · rw [ulen]
            exact small1000 (by omega)
          · rw [List.take_add_one, hrb]
            have hq8 := e8.at hq (by simp)
            exact Paired.snoc (StV.put hu hq8) (Paired.imp hqp fun _ _ z => (z.ext0 e8).put hq8)
      · rintro H7 ⟨us, hq, hqp, e7⟩
        have rlen : (ringB n).length = n := by unfold ringB; rw [List.length_map, List.length_range]
        rw [List.take_of_length_le (by omega)] at hqp
        refine ⟨D2, us, rfl, .of hq, fun t H8 ht hH8 => ?_⟩
        obtain ⟨zt, e8⟩ := newZ' (K := K) ht hH8
        have e68 := e7.trans e8
        have hD8 := e68.at hDv (by simp)
        refine ⟨vs, hD8, ?_, vs ++ [.ref t], upd_same, ?_, (e6.trans e68).put hD⟩
        · rw [Paired.len hpd, List.length_map, List.length_take]
          exact small1000 (Nat.le_trans (Nat.min_le_right _ _) (by decide))
        · rw [List.take_add_one, hin, List.map_append]
          refine Paired.snoc ?_ (Paired.imp hpd fun _ _ z => (z.ext0 e68).ext (L := [D]) (.wr (by simp)) (one_lst hD8))
          exact BkV.ext (L := [D]) (.wr (by simp)) (one_lst hD8) ⟨t, us, rfl, zt.sq, Paired.imp hqp fun _ _ z => z.ext0 e8⟩
    · rintro H6 ⟨vs, hDv, hpd, e6⟩
      obtain ⟨v7, v8, rfl, b7, b8⟩ : ∃ v7 v8, vs = [v7, v8] ∧ BkV K H6 v7 (ringB 7) ∧ BkV K H6 v8 (ringB 8) := by
        cases hpd with
        | cons q7 r =>
          cases r with
          | cons q8 r =>
            cases r
            exact ⟨_, _, rfl, q7, q8⟩
      have e56 := (e4'.trans x5).trans e6
      -- part_row(rings[0], rings[1])
      refine ⟨_, rfl, D, _, 0, v7, rfl, rfl, .of hDv, rfl, _, rfl, D, _, 1, v8, rfl, rfl, .of hDv, rfl, v7, v8, _, _, rfl, b7, r7_ring7, b8, r7_ring8, fun y H7 hy e7 => ?_⟩
      rw [r7_rings] at hy
      refine ⟨(by show 1 ≤ sizeLine; decide), fun c1 C1 hc1 hC1 => ?_⟩
      obtain ⟨y1, w1⟩ := newZ' (K := K) hc1 hC1
      refine ⟨c1, 13, [.int 0], rfl, rfl, y1.sq, by simp, by decide, by decide, by decide, fun c2 hc2 => ?_⟩
      have w2 : Ext [] C1 (upd C1 c2 (.tup (List.replicate (13 : Int).toNat [V.int 0]).flatten)) := .new hc2
      have y2 : upd C1 c2 (.tup (List.replicate (13 : Int).toNat [V.int 0]).flatten) c2 = some (.tup (List.replicate 13 (V.int 0))) := upd_same
      generalize upd C1 c2 (.tup (List.replicate (13 : Int).toNat [V.int 0]).flatten) = C2 at *
      refine ⟨(by show 1 ≤ sizeLine; decide), fun c3 C3 hc3 hC3 => ?_⟩
      obtain ⟨y3, w3⟩ := newZ' (K := K) hc3 hC3
      refine ⟨c2, c3, List.replicate 13 (.int 0), [.int 1], rfl, rfl, .of (w3.at y2 (by simp)), y3.sq, by simp, by show 14 ≤ sizeLine; decide, fun z => by simp at z, fun _ c4 C4 hc4 hC4 => ?_⟩
      obtain ⟨y4, w4⟩ := newZ' (K := K) hc4 hC4
      have w14 := ((w1.trans w2).trans w3).trans w4
      have k3 : OrV K C4 (.ref c4) (some (List.replicate 13 0 ++ [1])) := .inr ⟨c4, _, rfl, rfl, y4.sq⟩
      refine ⟨_, _, (hy.ext w14 Lsts.nil).dp, k3.dp, (by decide +kernel), (by decide +kernel), ?_⟩
      rw [show PyData.eqv (rowD (some (List.replicate 13 0 ++ [1]))) (rowD (some (List.replicate 13 0 ++ [1]))) = true by decide +kernel]
      refine ⟨_, rfl, iteF ?_⟩
      have e57 := (e56.trans e7).trans w14
      have b7' := (b7.ext0 e7).ext0 w14
      have b8' := (b8.ext0 e7).ext0 w14
      have hDc := w14.at (e7.at hDv (by simp)) (by simp)
      clear w1 w2 w3 w4 y1 y2 y3 y4 hC1 hC3 hC4 hc1 hc2 hc3 hc4 k3 hy e4 e4' x5 e6 e56 e20
      -- alike(rings[0], rings[1])
      refine ⟨_, rfl, D, _, 0, v7, rfl, rfl, .of hDc, rfl, _, rfl, D, _, 1, v8, rfl, rfl, .of hDc, rfl, v7, v8, _, _, rfl, b7', r7_ring7, b8', r7_ring8, fun H8 e8 => ?_⟩
      rw [r7_rings]
      refine ⟨false, false, rfl, rfl, _, rfl, iteF ?_⟩
      have hD8 := e8.at hDc (by simp)
      refine ⟨_, rfl, D, _, 0, v7, rfl, rfl, .of hD8, rfl, _, rfl, D, _, 1, v8, rfl, rfl, .of hD8, rfl, v7, v8, _, _, rfl, b7'.ext0 e8, r7_ring7, b8'.ext0 e8, r7_ring8, fun H9 e9 => ?_⟩
      rw [r7_in78]
      refine ⟨false, false, rfl, rfl, _, rfl, iteF ?_⟩
      have hD9 := e9.at hD8 (by simp)
      have e79 := e8.trans e9
      refine ⟨_, rfl, D, _, 1, v8, rfl, rfl, .of hD9, rfl, _, rfl, D, _, 0, v7, rfl, rfl, .of hD9, rfl, v8, v7, _, _, rfl, b8'.ext0 e79, r7_ring8, b7'.ext0 e79, r7_ring7, fun Ha ea => ?_⟩
      rw [r7_in87]
      refine ⟨false, false, rfl, rfl, _, rfl, iteF ?_⟩
      have Pa := P2.ext0 ((e57.trans e79).trans ea)
      clear hD9 hD8 hDc e8 e9 e79 ea b7' b8' e57 hpd b7 b8 hDv hD P2
      -- the book
      refine ⟨_, rfl, p, l, 4, 3, rfl, Pa, by decide, by decide, by decide, fun b v Hb ok hb4 few hb Pb eb => ?_⟩
      refine ⟨_, rfl, _, rfl, _, rfl, p, l, v, b, 8, rfl, Pb, hb, ok, by omega, by decide, fun c1 f1 v1 Hc ok1 len1 hm1 hb1 Pc ec => ?_⟩
      refine ⟨p, l, v1, c1, rfl, Pc, hb1, ok1.toFormB, fun N r tn c2v Hd hput hr hb2 Pd ed => ?_⟩
      refine ⟨r, _, 0, c2v, rfl, rfl, .of hr, atI_nat (j := 0) rfl, ?_⟩
      have ok2 := putB_okB ok1 hput
      have hm2 := (putB_hom ok1.toFormB hput).comp (putB_form ok1.toFormB hput (by have := ok1.eight; simpa using this)) hm1
      have few2 : ∀ s ∈ putB c1 N [], s.length ≤ 4 := fun s hs => by
        obtain ⟨x, hx, ex⟩ := List.mem_iff_getElem.mp hs
        have hd := hm2.mv x hx
        have e1 : mvs (putB c1 N []) x = s := by
            have z := mvs_lt hx
            rw [List.getElem?_eq_getElem hx, ex] at z
            exact (Option.some.inj z).symm
        have l1 := congrArg List.length hd
        rw [List.length_map, e1] at l1
        have hlt := hm2.lt x hx
        have := few _ (List.mem_of_getElem? (mvs_lt hlt))
        omega
      generalize putB c1 N [] = c2 at *
      have hbd : BkV K Hd v b := (hb.ext ec Pb.lsts).ext ed Pc.lsts
      -- least books
      refine ⟨_, rfl, v, b, rfl, hbd, ok, fun He ee => ⟨true, rfl, iteF ?_⟩⟩
      refine ⟨_, rfl, c2v, c2, rfl, hb2.ext0 ee, ok2, fun Hf ef => ⟨true, rfl, iteF ?_⟩⟩
      have edf := ee.trans ef
      refine ⟨_, rfl, c2v, c2, rfl, hb2.ext0 edf, ok2, fun d1 f2 u1 Hg lst1 hd1 eg => ?_⟩
      refine ⟨_, bookD d1, rfl, hd1.wk.dp, show_book lst1.ok.toFormB, ?_⟩
      refine ⟨_, rfl, v, b, rfl, hbd.ext0 (edf.trans eg), ok, fun d2 f3 u2 Hh lst2 hd2 eh => ?_⟩
      obtain rfl : d1 = d2 := lst_same ok2 ok lst1 lst2 (hm2.graph ok2.toFormB) ⟨ok2.toFormB.one, hm2.zero.symm⟩
      refine ⟨_, bookD d1, rfl, hd2.wk.dp, show_book lst2.ok.toFormB, rfl, _, rfl, ?_⟩
      rw [str_ne]
      refine iteF ?_
      have edh := (edf.trans eg).trans eh
      have Ph := Pd.ext0 edh
      have hbh := hbd.ext0 edh
      have hb2h := hb2.ext0 edh
      clear ee ef eg eh hd1 hd2 lst1 lst2 edf edh hbd hb2 hb hb1 Pa Pb Pc Pd hr hput
      -- others
      refine ⟨_, rfl, _, rfl, _, rfl, p, l, c2v, c2, rfl, Ph, hb2h, ok2, few2, fun c3 v3 Hi ok3 hb3 Pi ei => ?_⟩
      refine ⟨_, rfl, _, rfl, p, l, v, b, rfl, Pi, hbh.ext ei Ph.lsts, ok, fun s hs => Nat.le_trans (few s hs) (by decide), fun c4 v4 Hj ok4 hb4' Pj ej => ?_⟩
      refine ⟨_, rfl, p, l, 3, 3, rfl, Pj, by decide, by decide, by decide, fun c5 v5 Hk ok5 _ _ hb5 Pk ek => ?_⟩
      refine ⟨(by show 4 ≤ sizeLine; decide), fun lo nlo => ?_⟩
      have w1 : BkV K Hk v b := ((hbh.ext ei Ph.lsts).ext ej Pi.lsts).ext ek Pj.lsts
      have w2 : BkV K Hk c2v c2 := ((hb2h.ext ei Ph.lsts).ext ej Pi.lsts).ext ek Pj.lsts
      have w3 : BkV K Hk v3 c3 := (hb3.ext ej Pi.lsts).ext ek Pj.lsts
      have w4 : BkV K Hk v4 c4 := hb4'.ext ek Pj.lsts
      have xl : Ext [] Hk (upd Hk lo (.lst [c2v, v3, v4, v5])) := .new nlo
      have hl4 : upd Hk lo (.lst [c2v, v3, v4, v5]) lo = some (.lst [c2v, v3, v4, v5]) := upd_same
      generalize upd Hk lo (.lst [c2v, v3, v4, v5]) = Hl at *
      have ob : ∀ x ∈ [c2v, v3, v4, v5], ∃ c, BkV K Hl x c ∧ OkB c := by
        intro x hx
        simp only [List.mem_cons, List.not_mem_nil, or_false] at hx
        rcases hx with rfl | rfl | rfl | rfl
        · exact ⟨c2, w2.ext0 xl, ok2⟩
        · exact ⟨c3, w3.ext0 xl, ok3⟩
        · exact ⟨c4, w4.ext0 xl, ok4⟩
        · exact ⟨c5, hb5.ext0 xl, ok5⟩
      have wb := w1.ext0 xl
      refine ⟨_, rfl, lo, rfl, ⟨_, .of hl4⟩, fun D3 hD3 => ?_⟩
      refine lc_list (K := K) (a := lo) (xs := [c2v, v3, v4, v5]) (fun i H' => H' D3 = some (.lst []) ∧ Ext [] Hl H') ⟨upd_same, .new hD3⟩ (fun i H' _ ⟨_, e⟩ => .of (e.at hl4 (by simp))) ?_ ?_
      · rintro i x H' hv ⟨hX, e⟩
        obtain ⟨c, hc, oc⟩ := ob x (List.mem_of_getElem? hv)
        refine ⟨rfl, fun b' H2 => b' = false ∧ Ext [] H' H2, ⟨_, rfl, _, rfl, v, x, b, c, rfl, wb.ext0 e, ok, hc.ext0 e, oc, fun H2 e2 => ⟨true, rfl, rfl, e2⟩⟩, ?_⟩
        rintro b' H2 ⟨rfl, e2⟩
        exact iteF ⟨e2.at hX (by simp), e.trans e2⟩
      · rintro H' ⟨hX, e⟩
        refine ⟨(by show 0 ≤ sizeLine; decide), fun t0 ht0 => ?_⟩
        have e0 : Ext [] H' (upd H' t0 (.lst [])) := .new ht0
        refine ⟨.list [], .list [], .lst (.of (e0.at hX (by simp))) .nil, .lst (.of upd_same) .nil, by decide, by decide, ?_⟩
        exact q _
end
end Nv
namespace Nv
open PySem PySem.Spec PyProof.Rows L2
section
variable {K : PySem.W.Frag} {mg : Str → Option Value} {h : Heap}
def mkDef {name : Str} {st : Stmt} {ps : List Str} {f : Addr} {oc : Value} {od an : Option Addr} {osl : Array (Option Value)} {kV doc pm cdv ct : Value} (X : K.In h) (G : h.Ns mainGlobals mg)
    (a : PySem.W.nsIn K mainGlobals name = some (some (.ref f))) (l : K.lookup f = some ⟨oc, od, .func (PySem.W.fnOf name name (defArgs st) (defBody st) (defScope st) .none kV doc pm an cdv ct), osl⟩)
    (c : PySem.W.codeIn K cdv name = true) (k : PySem.W.keepIn K (.ref f) = true)
    (b : ∀ (kV doc pm : Value) (an : Option Addr) (cdv ct : Value) (us : List Value), us.length = ps.length → bindArgs (PySem.W.fnOf name name (defArgs st) (defBody st) (defScope st) .none kV doc pm an cdv ct) ⟨us, []⟩ = pure (ps.zip us)) : DefAt K mg name st ps :=
  ⟨f, _, fun_mk l c k, PySem.W.mg_of X G a, b kV doc pm an cdv ct⟩
def mkDefD {name : Str} {st : Stmt} {ps : List Str} {v : V} {u : Value} (r : RelV v u) {f dT : Addr} {oc doc1 : Value} {od an dod : Option Addr} {osl dsl : Array (Option Value)} {dn : Nat} {kV doc pm cdv ct : Value} (X : K.In h) (G : h.Ns mainGlobals mg)
    (a : PySem.W.nsIn K mainGlobals name = some (some (.ref f))) (l : K.lookup f = some ⟨oc, od, .func (PySem.W.fnOf name name (defArgs st) (defBody st) (defScope st) (.ref dT) kV doc pm an cdv ct), osl⟩)
    (c : PySem.W.codeIn K cdv name = true) (k : PySem.W.keepIn K (.ref f) = true) (d : K.lookup dT = some ⟨doc1, dod, .seq #[u] dn, dsl⟩) (n : Nat) (hn : n + 1 = ps.length)
    (b : ∀ (T : Addr) (kV doc pm : Value) (an : Option Addr) (cdv ct : Value) (us its : List Value), us.length = n → its.length = 1 →
      ∃ k, bindArgs (PySem.W.fnOf name name (defArgs st) (defBody st) (defScope st) (.ref T) kV doc pm an cdv ct) ⟨us, []⟩ = seqItems? (.ref T) >>= k ∧ k (some its.toArray) = pure (ps.zip (us ++ its.drop 0)))
    (b1 : ∀ (T : Addr) (kV doc pm : Value) (an : Option Addr) (cdv ct : Value) (us its : List Value), us.length = n + 1 → its.length = 1 →
      ∃ k, bindArgs (PySem.W.fnOf name name (defArgs st) (defBody st) (defScope st) (.ref T) kV doc pm an cdv ct) ⟨us, []⟩ = seqItems? (.ref T) >>= k ∧ k (some its.toArray) = pure (ps.zip (us ++ its.drop 1))) : DefAtD K mg name st ps [v] := by
  have F : FunD K name name (defArgs st) (defBody st) (defScope st) [v] [] f _ := ⟨⟨oc, od, .ref dT, kV, doc, pm, an, cdv, ct, osl, rfl, l, c, .inr ⟨by nofun, dT, _, [u], dn, rfl, d, rfl, .cons r .nil⟩, .inl rfl⟩, k⟩
  refine ⟨f, _, ⟨F⟩, PySem.W.mg_of X G a, ?_, F.binds1 n 0 (by nofun) (by simpa using hn) b⟩
  obtain ⟨ds, hv, hb⟩ := F.binds1 (n + 1) 1 (by nofun) (by simpa using hn) b1
  cases hv
  exact hb
end

set_option maxHeartbeats 0 in
theorem all_mk {l : PySem.W.OpenLaw} {w : World} {K : PySem.W.Frag} {h : Heap} {mg : Str → Option Value} {fa : Addr} (X : K.In h) (G : h.Ns mainGlobals mg) (hfa : mg "law" = some (.ref fa))
    {f0 : Addr} {oc0 kV0 dc0 pm0 cd0 ct0 : Value} {od0 an0 : Option Addr} {sl0 : Array (Option Value)}
    {f1 : Addr} {oc1 kV1 dc1 pm1 cd1 ct1 : Value} {od1 an1 : Option Addr} {sl1 : Array (Option Value)}
    {f2 : Addr} {oc2 kV2 dc2 pm2 cd2 ct2 : Value} {od2 an2 : Option Addr} {sl2 : Array (Option Value)}
    {f3 : Addr} {oc3 kV3 dc3 pm3 cd3 ct3 : Value} {od3 an3 : Option Addr} {sl3 : Array (Option Value)} {zT3 : Addr} {zc3 : Value} {zo3 : Option Addr} {zs3 : Array (Option Value)} {zn3 : Nat} {zk3 : Tok}
    {f4 : Addr} {oc4 kV4 dc4 pm4 cd4 ct4 : Value} {od4 an4 : Option Addr} {sl4 : Array (Option Value)}
    {f5 : Addr} {oc5 kV5 dc5 pm5 cd5 ct5 : Value} {od5 an5 : Option Addr} {sl5 : Array (Option Value)}
    {f6 : Addr} {oc6 kV6 dc6 pm6 cd6 ct6 : Value} {od6 an6 : Option Addr} {sl6 : Array (Option Value)}
    {f7 : Addr} {oc7 kV7 dc7 pm7 cd7 ct7 : Value} {od7 an7 : Option Addr} {sl7 : Array (Option Value)}
    {f8 : Addr} {oc8 kV8 dc8 pm8 cd8 ct8 : Value} {od8 an8 : Option Addr} {sl8 : Array (Option Value)}
    {f9 : Addr} {oc9 kV9 dc9 pm9 cd9 ct9 : Value} {od9 an9 : Option Addr} {sl9 : Array (Option Value)}
    {f10 : Addr} {oc10 kV10 dc10 pm10 cd10 ct10 : Value} {od10 an10 : Option Addr} {sl10 : Array (Option Value)}
    {f11 : Addr} {oc11 kV11 dc11 pm11 cd11 ct11 : Value} {od11 an11 : Option Addr} {sl11 : Array (Option Value)}
    {f12 : Addr} {oc12 kV12 dc12 pm12 cd12 ct12 : Value} {od12 an12 : Option Addr} {sl12 : Array (Option Value)}
    {f13 : Addr} {oc13 kV13 dc13 pm13 cd13 ct13 : Value} {od13 an13 : Option Addr} {sl13 : Array (Option Value)}
    {f14 : Addr} {oc14 kV14 dc14 pm14 cd14 ct14 : Value} {od14 an14 : Option Addr} {sl14 : Array (Option Value)}
    {f15 : Addr} {oc15 kV15 dc15 pm15 cd15 ct15 : Value} {od15 an15 : Option Addr} {sl15 : Array (Option Value)}
    {f16 : Addr} {oc16 kV16 dc16 pm16 cd16 ct16 : Value} {od16 an16 : Option Addr} {sl16 : Array (Option Value)}
    {f17 : Addr} {oc17 kV17 dc17 pm17 cd17 ct17 : Value} {od17 an17 : Option Addr} {sl17 : Array (Option Value)}
    {f18 : Addr} {oc18 kV18 dc18 pm18 cd18 ct18 : Value} {od18 an18 : Option Addr} {sl18 : Array (Option Value)}
    {f19 : Addr} {oc19 kV19 dc19 pm19 cd19 ct19 : Value} {od19 an19 : Option Addr} {sl19 : Array (Option Value)}
    {f20 : Addr} {oc20 kV20 dc20 pm20 cd20 ct20 : Value} {od20 an20 : Option Addr} {sl20 : Array (Option Value)}
    {f21 : Addr} {oc21 kV21 dc21 pm21 cd21 ct21 : Value} {od21 an21 : Option Addr} {sl21 : Array (Option Value)}
    {f22 : Addr} {oc22 kV22 dc22 pm22 cd22 ct22 : Value} {od22 an22 : Option Addr} {sl22 : Array (Option Value)}
    {f23 : Addr} {oc23 kV23 dc23 pm23 cd23 ct23 : Value} {od23 an23 : Option Addr} {sl23 : Array (Option Value)}
    {f24 : Addr} {oc24 kV24 dc24 pm24 cd24 ct24 : Value} {od24 an24 : Option Addr} {sl24 : Array (Option Value)}
    {f25 : Addr} {oc25 kV25 dc25 pm25 cd25 ct25 : Value} {od25 an25 : Option Addr} {sl25 : Array (Option Value)}
    {f26 : Addr} {oc26 kV26 dc26 pm26 cd26 ct26 : Value} {od26 an26 : Option Addr} {sl26 : Array (Option Value)}
    {f27 : Addr} {oc27 kV27 dc27 pm27 cd27 ct27 : Value} {od27 an27 : Option Addr} {sl27 : Array (Option Value)}
    {f28 : Addr} {oc28 kV28 dc28 pm28 cd28 ct28 : Value} {od28 an28 : Option Addr} {sl28 : Array (Option Value)}
    {f29 : Addr} {oc29 kV29 dc29 pm29 cd29 ct29 : Value} {od29 an29 : Option Addr} {sl29 : Array (Option Value)}
    {f30 : Addr} {oc30 kV30 dc30 pm30 cd30 ct30 : Value} {od30 an30 : Option Addr} {sl30 : Array (Option Value)}
    {f31 : Addr} {oc31 kV31 dc31 pm31 cd31 ct31 : Value} {od31 an31 : Option Addr} {sl31 : Array (Option Value)}
    {fI : Addr} {ocI kVI dcI pmI cdI ctI : Value} {odI anI : Option Addr} {slI : Array (Option Value)}
    {C0 R0 N0 : Addr} {nm0 q0 : Str} {bs0 : List Value} {sn0 : List Str} {sub0 : List Value} {ab0 : Bool} {col0 : Option Bool} {dd0 : Option Addr} {m00 m10 m30 m50 : Option Value} {mt0 : Tok}
    {C1 R1 N1 : Addr} {nm1 q1 : Str} {bs1 : List Value} {sn1 : List Str} {sub1 : List Value} {ab1 : Bool} {col1 : Option Bool} {dd1 : Option Addr} {m01 m11 m31 m51 : Option Value} {mt1 : Tok}
    {CR : Addr}
    {t0 : Tok}
    {t1 : Tok}
    {t2 : Tok}
    (a0 : PySem.W.nsIn K mainGlobals "whole" = some (some (.ref f0))) (l0 : K.lookup f0 = some ⟨oc0, od0, .func (PySem.W.fnOf "whole" "whole" (defArgs s_whole) (defBody s_whole) (defScope s_whole) .none kV0 dc0 pm0 an0 cd0 ct0), sl0⟩) (c0 : PySem.W.codeIn K cd0 "whole" = true) (k0 : PySem.W.keepIn K (.ref f0) = true)
    (a1 : PySem.W.nsIn K mainGlobals "whole_within" = some (some (.ref f1))) (l1 : K.lookup f1 = some ⟨oc1, od1, .func (PySem.W.fnOf "whole_within" "whole_within" (defArgs s_whole_within) (defBody s_whole_within) (defScope s_whole_within) .none kV1 dc1 pm1 an1 cd1 ct1), sl1⟩) (c1 : PySem.W.codeIn K cd1 "whole_within" = true) (k1 : PySem.W.keepIn K (.ref f1) = true)
    (a2 : PySem.W.nsIn K mainGlobals "tuple_within" = some (some (.ref f2))) (l2 : K.lookup f2 = some ⟨oc2, od2, .func (PySem.W.fnOf "tuple_within" "tuple_within" (defArgs s_tuple_within) (defBody s_tuple_within) (defScope s_tuple_within) .none kV2 dc2 pm2 an2 cd2 ct2), sl2⟩) (c2 : PySem.W.codeIn K cd2 "tuple_within" = true) (k2 : PySem.W.keepIn K (.ref f2) = true)
    (a3 : PySem.W.nsIn K mainGlobals "first_rows" = some (some (.ref f3))) (l3 : K.lookup f3 = some ⟨oc3, od3, .func (PySem.W.fnOf "first_rows" "first_rows" (defArgs s_first_rows) (defBody s_first_rows) (defScope s_first_rows) (.ref zT3) kV3 dc3 pm3 an3 cd3 ct3), sl3⟩) (c3 : PySem.W.codeIn K cd3 "first_rows" = true) (k3 : PySem.W.keepIn K (.ref f3) = true)
    (df3 : K.lookup zT3 = some ⟨zc3, zo3, .seq #[.int 0 zk3] zn3, zs3⟩)
    (a4 : PySem.W.nsIn K mainGlobals "by_meeting" = some (some (.ref f4))) (l4 : K.lookup f4 = some ⟨oc4, od4, .func (PySem.W.fnOf "by_meeting" "by_meeting" (defArgs s_by_meeting) (defBody s_by_meeting) (defScope s_by_meeting) .none kV4 dc4 pm4 an4 cd4 ct4), sl4⟩) (c4 : PySem.W.codeIn K cd4 "by_meeting" = true) (k4 : PySem.W.keepIn K (.ref f4) = true)
    (a5 : PySem.W.nsIn K mainGlobals "least_states" = some (some (.ref f5))) (l5 : K.lookup f5 = some ⟨oc5, od5, .func (PySem.W.fnOf "least_states" "least_states" (defArgs s_least_states) (defBody s_least_states) (defScope s_least_states) .none kV5 dc5 pm5 an5 cd5 ct5), sl5⟩) (c5 : PySem.W.codeIn K cd5 "least_states" = true) (k5 : PySem.W.keepIn K (.ref f5) = true)
    (a6 : PySem.W.nsIn K mainGlobals "made_book" = some (some (.ref f6))) (l6 : K.lookup f6 = some ⟨oc6, od6, .func (PySem.W.fnOf "made_book" "made_book" (defArgs s_made_book) (defBody s_made_book) (defScope s_made_book) .none kV6 dc6 pm6 an6 cd6 ct6), sl6⟩) (c6 : PySem.W.codeIn K cd6 "made_book" = true) (k6 : PySem.W.keepIn K (.ref f6) = true)
    (a7 : PySem.W.nsIn K mainGlobals "is_book" = some (some (.ref f7))) (l7 : K.lookup f7 = some ⟨oc7, od7, .func (PySem.W.fnOf "is_book" "is_book" (defArgs s_is_book) (defBody s_is_book) (defScope s_is_book) .none kV7 dc7 pm7 an7 cd7 ct7), sl7⟩) (c7 : PySem.W.codeIn K cd7 "is_book" = true) (k7 : PySem.W.keepIn K (.ref f7) = true)
    (a8 : PySem.W.nsIn K mainGlobals "trimmed" = some (some (.ref f8))) (l8 : K.lookup f8 = some ⟨oc8, od8, .func (PySem.W.fnOf "trimmed" "trimmed" (defArgs s_trimmed) (defBody s_trimmed) (defScope s_trimmed) .none kV8 dc8 pm8 an8 cd8 ct8), sl8⟩) (c8 : PySem.W.codeIn K cd8 "trimmed" = true) (k8 : PySem.W.keepIn K (.ref f8) = true)
    (a9 : PySem.W.nsIn K mainGlobals "check_form" = some (some (.ref f9))) (l9 : K.lookup f9 = some ⟨oc9, od9, .func (PySem.W.fnOf "check_form" "check_form" (defArgs s_check_form) (defBody s_check_form) (defScope s_check_form) .none kV9 dc9 pm9 an9 cd9 ct9), sl9⟩) (c9 : PySem.W.codeIn K cd9 "check_form" = true) (k9 : PySem.W.keepIn K (.ref f9) = true)
    (a10 : PySem.W.nsIn K mainGlobals "has_state_form" = some (some (.ref f10))) (l10 : K.lookup f10 = some ⟨oc10, od10, .func (PySem.W.fnOf "has_state_form" "has_state_form" (defArgs s_has_state_form) (defBody s_has_state_form) (defScope s_has_state_form) .none kV10 dc10 pm10 an10 cd10 ct10), sl10⟩) (c10 : PySem.W.codeIn K cd10 "has_state_form" = true) (k10 : PySem.W.keepIn K (.ref f10) = true)
    (a11 : PySem.W.nsIn K mainGlobals "least_book" = some (some (.ref f11))) (l11 : K.lookup f11 = some ⟨oc11, od11, .func (PySem.W.fnOf "least_book" "least_book" (defArgs s_least_book) (defBody s_least_book) (defScope s_least_book) .none kV11 dc11 pm11 an11 cd11 ct11), sl11⟩) (c11 : PySem.W.codeIn K cd11 "least_book" = true) (k11 : PySem.W.keepIn K (.ref f11) = true)
    (a12 : PySem.W.nsIn K mainGlobals "alike" = some (some (.ref f12))) (l12 : K.lookup f12 = some ⟨oc12, od12, .func (PySem.W.fnOf "alike" "alike" (defArgs s_alike) (defBody s_alike) (defScope s_alike) .none kV12 dc12 pm12 an12 cd12 ct12), sl12⟩) (c12 : PySem.W.codeIn K cd12 "alike" = true) (k12 : PySem.W.keepIn K (.ref f12) = true)
    (a13 : PySem.W.nsIn K mainGlobals "part_row" = some (some (.ref f13))) (l13 : K.lookup f13 = some ⟨oc13, od13, .func (PySem.W.fnOf "part_row" "part_row" (defArgs s_part_row) (defBody s_part_row) (defScope s_part_row) .none kV13 dc13 pm13 an13 cd13 ct13), sl13⟩) (c13 : PySem.W.codeIn K cd13 "part_row" = true) (k13 : PySem.W.keepIn K (.ref f13) = true)
    (a14 : PySem.W.nsIn K mainGlobals "within" = some (some (.ref f14))) (l14 : K.lookup f14 = some ⟨oc14, od14, .func (PySem.W.fnOf "within" "within" (defArgs s_within) (defBody s_within) (defScope s_within) .none kV14 dc14 pm14 an14 cd14 ct14), sl14⟩) (c14 : PySem.W.codeIn K cd14 "within" = true) (k14 : PySem.W.keepIn K (.ref f14) = true)
    (a15 : PySem.W.nsIn K mainGlobals "met_pairs" = some (some (.ref f15))) (l15 : K.lookup f15 = some ⟨oc15, od15, .func (PySem.W.fnOf "met_pairs" "met_pairs" (defArgs s_met_pairs) (defBody s_met_pairs) (defScope s_met_pairs) .none kV15 dc15 pm15 an15 cd15 ct15), sl15⟩) (c15 : PySem.W.codeIn K cd15 "met_pairs" = true) (k15 : PySem.W.keepIn K (.ref f15) = true)
    (a16 : PySem.W.nsIn K mainGlobals "_law_pool" = some (some (.ref f16))) (l16 : K.lookup f16 = some ⟨oc16, od16, .func (PySem.W.fnOf "_law_pool" "_law_pool" (defArgs s_law_pool) (defBody s_law_pool) (defScope s_law_pool) .none kV16 dc16 pm16 an16 cd16 ct16), sl16⟩) (c16 : PySem.W.codeIn K cd16 "_law_pool" = true) (k16 : PySem.W.keepIn K (.ref f16) = true)
    (a17 : PySem.W.nsIn K mainGlobals "_law_draw" = some (some (.ref f17))) (l17 : K.lookup f17 = some ⟨oc17, od17, .func (PySem.W.fnOf "_law_draw" "_law_draw" (defArgs s_law_draw) (defBody s_law_draw) (defScope s_law_draw) .none kV17 dc17 pm17 an17 cd17 ct17), sl17⟩) (c17 : PySem.W.codeIn K cd17 "_law_draw" = true) (k17 : PySem.W.keepIn K (.ref f17) = true)
    (a18 : PySem.W.nsIn K mainGlobals "_law_pick" = some (some (.ref f18))) (l18 : K.lookup f18 = some ⟨oc18, od18, .func (PySem.W.fnOf "_law_pick" "_law_pick" (defArgs s_law_pick) (defBody s_law_pick) (defScope s_law_pick) .none kV18 dc18 pm18 an18 cd18 ct18), sl18⟩) (c18 : PySem.W.codeIn K cd18 "_law_pick" = true) (k18 : PySem.W.keepIn K (.ref f18) = true)
    (a19 : PySem.W.nsIn K mainGlobals "_law_turned" = some (some (.ref f19))) (l19 : K.lookup f19 = some ⟨oc19, od19, .func (PySem.W.fnOf "_law_turned" "_law_turned" (defArgs s_law_turned) (defBody s_law_turned) (defScope s_law_turned) .none kV19 dc19 pm19 an19 cd19 ct19), sl19⟩) (c19 : PySem.W.codeIn K cd19 "_law_turned" = true) (k19 : PySem.W.keepIn K (.ref f19) = true)
    (a20 : PySem.W.nsIn K mainGlobals "_law_book_meeting" = some (some (.ref f20))) (l20 : K.lookup f20 = some ⟨oc20, od20, .func (PySem.W.fnOf "_law_book_meeting" "_law_book_meeting" (defArgs s_law_book_meeting) (defBody s_law_book_meeting) (defScope s_law_book_meeting) .none kV20 dc20 pm20 an20 cd20 ct20), sl20⟩) (c20 : PySem.W.codeIn K cd20 "_law_book_meeting" = true) (k20 : PySem.W.keepIn K (.ref f20) = true)
    (a21 : PySem.W.nsIn K mainGlobals "_law_book_messages" = some (some (.ref f21))) (l21 : K.lookup f21 = some ⟨oc21, od21, .func (PySem.W.fnOf "_law_book_messages" "_law_book_messages" (defArgs s_law_book_messages) (defBody s_law_book_messages) (defScope s_law_book_messages) .none kV21 dc21 pm21 an21 cd21 ct21), sl21⟩) (c21 : PySem.W.codeIn K cd21 "_law_book_messages" = true) (k21 : PySem.W.keepIn K (.ref f21) = true)
    (a22 : PySem.W.nsIn K mainGlobals "_law_book_drawn" = some (some (.ref f22))) (l22 : K.lookup f22 = some ⟨oc22, od22, .func (PySem.W.fnOf "_law_book_drawn" "_law_book_drawn" (defArgs s_law_book_drawn) (defBody s_law_book_drawn) (defScope s_law_book_drawn) .none kV22 dc22 pm22 an22 cd22 ct22), sl22⟩) (c22 : PySem.W.codeIn K cd22 "_law_book_drawn" = true) (k22 : PySem.W.keepIn K (.ref f22) = true)
    (a23 : PySem.W.nsIn K mainGlobals "_law_book_next" = some (some (.ref f23))) (l23 : K.lookup f23 = some ⟨oc23, od23, .func (PySem.W.fnOf "_law_book_next" "_law_book_next" (defArgs s_law_book_next) (defBody s_law_book_next) (defScope s_law_book_next) .none kV23 dc23 pm23 an23 cd23 ct23), sl23⟩) (c23 : PySem.W.codeIn K cd23 "_law_book_next" = true) (k23 : PySem.W.keepIn K (.ref f23) = true)
    (a24 : PySem.W.nsIn K mainGlobals "_law_book_renamed" = some (some (.ref f24))) (l24 : K.lookup f24 = some ⟨oc24, od24, .func (PySem.W.fnOf "_law_book_renamed" "_law_book_renamed" (defArgs s_law_book_renamed) (defBody s_law_book_renamed) (defScope s_law_book_renamed) .none kV24 dc24 pm24 an24 cd24 ct24), sl24⟩) (c24 : PySem.W.codeIn K cd24 "_law_book_renamed" = true) (k24 : PySem.W.keepIn K (.ref f24) = true)
    (a25 : PySem.W.nsIn K mainGlobals "_law_book_copied" = some (some (.ref f25))) (l25 : K.lookup f25 = some ⟨oc25, od25, .func (PySem.W.fnOf "_law_book_copied" "_law_book_copied" (defArgs s_law_book_copied) (defBody s_law_book_copied) (defScope s_law_book_copied) .none kV25 dc25 pm25 an25 cd25 ct25), sl25⟩) (c25 : PySem.W.codeIn K cd25 "_law_book_copied" = true) (k25 : PySem.W.keepIn K (.ref f25) = true)
    (a26 : PySem.W.nsIn K mainGlobals "_law_apart" = some (some (.ref f26))) (l26 : K.lookup f26 = some ⟨oc26, od26, .func (PySem.W.fnOf "_law_apart" "_law_apart" (defArgs s_law_apart) (defBody s_law_apart) (defScope s_law_apart) .none kV26 dc26 pm26 an26 cd26 ct26), sl26⟩) (c26 : PySem.W.codeIn K cd26 "_law_apart" = true) (k26 : PySem.W.keepIn K (.ref f26) = true)
    (a27 : PySem.W.nsIn K mainGlobals "_law_unlike_states" = some (some (.ref f27))) (l27 : K.lookup f27 = some ⟨oc27, od27, .func (PySem.W.fnOf "_law_unlike_states" "_law_unlike_states" (defArgs s_law_unlike_states) (defBody s_law_unlike_states) (defScope s_law_unlike_states) .none kV27 dc27 pm27 an27 cd27 ct27), sl27⟩) (c27 : PySem.W.codeIn K cd27 "_law_unlike_states" = true) (k27 : PySem.W.keepIn K (.ref f27) = true)
    (a28 : PySem.W.nsIn K mainGlobals "_law_least_right" = some (some (.ref f28))) (l28 : K.lookup f28 = some ⟨oc28, od28, .func (PySem.W.fnOf "_law_least_right" "_law_least_right" (defArgs s_law_least_right) (defBody s_law_least_right) (defScope s_law_least_right) .none kV28 dc28 pm28 an28 cd28 ct28), sl28⟩) (c28 : PySem.W.codeIn K cd28 "_law_least_right" = true) (k28 : PySem.W.keepIn K (.ref f28) = true)
    (a29 : PySem.W.nsIn K mainGlobals "_law_two_right" = some (some (.ref f29))) (l29 : K.lookup f29 = some ⟨oc29, od29, .func (PySem.W.fnOf "_law_two_right" "_law_two_right" (defArgs s_law_two_right) (defBody s_law_two_right) (defScope s_law_two_right) .none kV29 dc29 pm29 an29 cd29 ct29), sl29⟩) (c29 : PySem.W.codeIn K cd29 "_law_two_right" = true) (k29 : PySem.W.keepIn K (.ref f29) = true)
    (a30 : PySem.W.nsIn K mainGlobals "_law_led_elsewhere" = some (some (.ref f30))) (l30 : K.lookup f30 = some ⟨oc30, od30, .func (PySem.W.fnOf "_law_led_elsewhere" "_law_led_elsewhere" (defArgs s_law_led_elsewhere) (defBody s_law_led_elsewhere) (defScope s_law_led_elsewhere) .none kV30 dc30 pm30 an30 cd30 ct30), sl30⟩) (c30 : PySem.W.codeIn K cd30 "_law_led_elsewhere" = true) (k30 : PySem.W.keepIn K (.ref f30) = true)
    (a31 : PySem.W.nsIn K mainGlobals "law" = some (some (.ref f31))) (l31 : K.lookup f31 = some ⟨oc31, od31, .func (PySem.W.fnOf "law" "law" (defArgs s_law) (defBody s_law) (defScope s_law) .none kV31 dc31 pm31 an31 cd31 ct31), sl31⟩) (c31 : PySem.W.codeIn K cd31 "law" = true) (k31 : PySem.W.keepIn K (.ref f31) = true)
    (lI : K.lookup fI = some ⟨ocI, odI, .func (PySem.W.fnOf "__init__" "Refused.__init__" (defArgs s_init) (defBody s_init) (defScope s_init) .none kVI dcI pmI anI cdI ctI), slI⟩) (cI : PySem.W.codeIn K cdI "Refused.__init__" = true) (kI : PySem.W.keepIn K (.ref fI) = true) (tI : PySem.W.typeIn K (.ref fI) = some (.type "function"))
    (xg0 : PySem.W.nsIn K mainGlobals "BadBook" = some (some (.ref C0))) (xl0 : K.lookup C0 = some (excClassObj nm0 q0 C0 N0 bs0 [.ref R0, .type "ValueError", .type "Exception", .type "BaseException", .type "object"] true sn0 sub0 ab0 col0 dd0 m00 m10 (some (.str "BadBook" mt0)) m30 m50 "ValueError.__new__"))
    (xs0 : PySem.W.findIn K (.ref C0) "__setattr__" = some (some (.builtin "object.__setattr__"))) (xe0 : PySem.W.subIn K (.ref C0) (.type "BaseException") = some true) (xt0 : PySem.W.typeIn K (.ref C0) = some (.type "type")) (xk0 : PySem.W.keepIn K (.ref C0) = true)
    (xi0 : PySem.W.findIn K (.ref C0) "__init__" = some (some (.ref fI))) (xa0 : PySem.W.findIn K (.ref C0) "__getattribute__" = some (some (.builtin "BaseException.__getattribute__"))) (xb0 : PySem.W.findIn K (.ref C0) "__getattr__" = some none) (xw0 : PySem.W.findIn K (.ref C0) "what" = some none) (xh0 : PySem.W.hasDictIn K C0 = true) (xc0 : PySem.W.isClsIn K C0 = true)
    (xm0 : PySem.W.mroIn K C0 (.type "object") = some true) (xr0 : PySem.W.readsIn K C0 (.type "type") = true) (xf0 : PySem.W.findCls K (.ref C0) (.type "type") "__name__" = some (.get (.builtin "getset_descriptor.__get__") (.builtin "type.__name__") (.ref C0) (.type "type"))) (xn0 : PySem.W.findIn K (.ref C0) "kind" = some none) (xo0 : PySem.W.findIn K (.ref C0) "__class__" = some (some (.builtin "object.__class__")))
    (xg1 : PySem.W.nsIn K mainGlobals "Stray" = some (some (.ref C1))) (xl1 : K.lookup C1 = some (excClassObj nm1 q1 C1 N1 bs1 [.ref R1, .type "ValueError", .type "Exception", .type "BaseException", .type "object"] true sn1 sub1 ab1 col1 dd1 m01 m11 (some (.str "Stray" mt1)) m31 m51 "ValueError.__new__"))
    (xs1 : PySem.W.findIn K (.ref C1) "__setattr__" = some (some (.builtin "object.__setattr__"))) (xe1 : PySem.W.subIn K (.ref C1) (.type "BaseException") = some true) (xt1 : PySem.W.typeIn K (.ref C1) = some (.type "type")) (xk1 : PySem.W.keepIn K (.ref C1) = true)
    (xi1 : PySem.W.findIn K (.ref C1) "__init__" = some (some (.ref fI))) (xa1 : PySem.W.findIn K (.ref C1) "__getattribute__" = some (some (.builtin "BaseException.__getattribute__"))) (xb1 : PySem.W.findIn K (.ref C1) "__getattr__" = some none) (xw1 : PySem.W.findIn K (.ref C1) "what" = some none) (xh1 : PySem.W.hasDictIn K C1 = true) (xc1 : PySem.W.isClsIn K C1 = true)
    (xm1 : PySem.W.mroIn K C1 (.type "object") = some true) (xr1 : PySem.W.readsIn K C1 (.type "type") = true) (xf1 : PySem.W.findCls K (.ref C1) (.type "type") "__name__" = some (.get (.builtin "getset_descriptor.__get__") (.builtin "type.__name__") (.ref C1) (.type "type"))) (xn1 : PySem.W.findIn K (.ref C1) "kind" = some none) (xo1 : PySem.W.findIn K (.ref C1) "__class__" = some (some (.builtin "object.__class__")))
    (zcn : PySem.W.specialIn K (.builtin "object.__class__") "__get__" = some (some (.builtin "getset_descriptor.__get__"))) (zct : PySem.W.takesIn K (.builtin "object.__class__") = some true)
    (rg : PySem.W.nsIn K mainGlobals "Refused" = some (some (.ref CR))) (rc : PySem.W.isClsIn K CR = true) (rt : PySem.W.typeIn K (.ref CR) = some (.type "type")) (rb : PySem.W.subIn K (.ref CR) (.type "BaseException") = some true)
    (rq0 : PySem.W.subIn K (.ref C0) (.ref CR) = some true) (rv0 : PySem.W.subIn K (.ref C0) (.type "ValueError") = some true)
    (rq1 : PySem.W.subIn K (.ref C1) (.ref CR) = some true) (rv1 : PySem.W.subIn K (.ref C1) (.type "ValueError") = some true)
    (z0 : PySem.W.nsIn K mainGlobals "isinstance" = some none)
    (z1 : PySem.W.nsIn K mainGlobals "int" = some none)
    (z2 : PySem.W.nsIn K mainGlobals "bool" = some none)
    (z3 : PySem.W.nsIn K mainGlobals "tuple" = some none)
    (z4 : PySem.W.nsIn K mainGlobals "len" = some none)
    (z5 : PySem.W.nsIn K mainGlobals "list" = some none)
    (z6 : PySem.W.nsIn K mainGlobals "enumerate" = some none)
    (z7 : PySem.W.nsIn K mainGlobals "range" = some none)
    (z8 : PySem.W.nsIn K mainGlobals "min" = some none)
    (z9 : PySem.W.nsIn K mainGlobals "dict" = some none)
    (z10 : PySem.W.nsIn K mainGlobals "sorted" = some none)
    (z11 : PySem.W.nsIn K mainGlobals "set" = some none)
    (z12 : PySem.W.nsIn K mainGlobals "zip" = some none)
    (z13 : PySem.W.nsIn K mainGlobals "repr" = some none)
    (y0 : PySem.W.nsIn K mainGlobals "MOST_STATES" = some (some (.int 8 t0)))
    (y1 : PySem.W.nsIn K mainGlobals "MOST_MESSAGES" = some (some (.int 5 t1)))
    (y2 : PySem.W.nsIn K mainGlobals "GREATEST_MESSAGE" = some (some (.int 99 t2)))
    : ∃ fd : FuncData, (∀ (s : Shared) (v : Value), BindsTo s fd ⟨[v], []⟩ [("script", v)]) ∧ ∀ base : Heap, K.In base → base.Ns mainGlobals mg → FnG l.prog w K mg base CX0 10 fa fd ["script"] (spLaw K) := by
  have T : Tx K mg := {
    whole := mkDef X G a0 l0 c0 k0 fun _ _ _ _ _ _ us hl => match us, hl with | [_], _ => rfl
    whole_within := mkDef X G a1 l1 c1 k1 fun _ _ _ _ _ _ us hl => match us, hl with | [_, _, _], _ => rfl
    tuple_within := mkDef X G a2 l2 c2 k2 fun _ _ _ _ _ _ us hl => match us, hl with | [_, _, _], _ => rfl
    first_rows := mkDefD ⟨zk3, rfl⟩ X G a3 l3 c3 k3 df3 1 rfl (fun _ _ _ _ _ _ _ us its h1 h2 => match us, its, h1, h2 with | [_], [_], _, _ => ⟨_, rfl, rfl⟩) (fun _ _ _ _ _ _ _ us its h1 h2 => match us, its, h1, h2 with | [_, _], [_], _, _ => ⟨_, rfl, rfl⟩)
    by_meeting := mkDef X G a4 l4 c4 k4 fun _ _ _ _ _ _ us hl => match us, hl with | [_], _ => rfl
    least_states := mkDef X G a5 l5 c5 k5 fun _ _ _ _ _ _ us hl => match us, hl with | [_], _ => rfl
    made_book := mkDef X G a6 l6 c6 k6 fun _ _ _ _ _ _ us hl => match us, hl with | [_], _ => rfl
    is_book := mkDef X G a7 l7 c7 k7 fun _ _ _ _ _ _ us hl => match us, hl with | [_], _ => rfl
    trimmed := mkDef X G a8 l8 c8 k8 fun _ _ _ _ _ _ us hl => match us, hl with | [_], _ => rfl
    check_form := mkDef X G a9 l9 c9 k9 fun _ _ _ _ _ _ us hl => match us, hl with | [_], _ => rfl
    has_state_form := mkDef X G a10 l10 c10 k10 fun _ _ _ _ _ _ us hl => match us, hl with | [_, _], _ => rfl
    least_book := mkDef X G a11 l11 c11 k11 fun _ _ _ _ _ _ us hl => match us, hl with | [_], _ => rfl
    alike := mkDef X G a12 l12 c12 k12 fun _ _ _ _ _ _ us hl => match us, hl with | [_, _], _ => rfl
    part_row := mkDef X G a13 l13 c13 k13 fun _ _ _ _ _ _ us hl => match us, hl with | [_, _], _ => rfl
    within := mkDef X G a14 l14 c14 k14 fun _ _ _ _ _ _ us hl => match us, hl with | [_, _], _ => rfl
    met_pairs := mkDef X G a15 l15 c15 k15 fun _ _ _ _ _ _ us hl => match us, hl with | [_, _], _ => rfl
    law_pool := mkDef X G a16 l16 c16 k16 fun _ _ _ _ _ _ us hl => match us, hl with | [_], _ => rfl
    law_draw := mkDef X G a17 l17 c17 k17 fun _ _ _ _ _ _ us hl => match us, hl with | [_, _], _ => rfl
    law_pick := mkDef X G a18 l18 c18 k18 fun _ _ _ _ _ _ us hl => match us, hl with | [_, _], _ => rfl
    law_turned := mkDef X G a19 l19 c19 k19 fun _ _ _ _ _ _ us hl => match us, hl with | [_, _], _ => rfl
    law_book_meeting := mkDef X G a20 l20 c20 k20 fun _ _ _ _ _ _ us hl => match us, hl with | [_], _ => rfl
    law_book_messages := mkDef X G a21 l21 c21 k21 fun _ _ _ _ _ _ us hl => match us, hl with | [_, _], _ => rfl
    law_book_drawn := mkDef X G a22 l22 c22 k22 fun _ _ _ _ _ _ us hl => match us, hl with | [_, _, _], _ => rfl
    law_book_next := mkDef X G a23 l23 c23 k23 fun _ _ _ _ _ _ us hl => match us, hl with | [_, _, _], _ => rfl
    law_book_renamed := mkDef X G a24 l24 c24 k24 fun _ _ _ _ _ _ us hl => match us, hl with | [_, _], _ => rfl
    law_book_copied := mkDef X G a25 l25 c25 k25 fun _ _ _ _ _ _ us hl => match us, hl with | [_, _, _], _ => rfl
    law_apart := mkDef X G a26 l26 c26 k26 fun _ _ _ _ _ _ us hl => match us, hl with | [_, _], _ => rfl
    law_unlike_states := mkDef X G a27 l27 c27 k27 fun _ _ _ _ _ _ us hl => match us, hl with | [_], _ => rfl
    law_least_right := mkDef X G a28 l28 c28 k28 fun _ _ _ _ _ _ us hl => match us, hl with | [_], _ => rfl
    law_two_right := mkDef X G a29 l29 c29 k29 fun _ _ _ _ _ _ us hl => match us, hl with | [_, _], _ => rfl
    law_led_elsewhere := mkDef X G a30 l30 c30 k30 fun _ _ _ _ _ _ us hl => match us, hl with | [_, _], _ => rfl
    law := mkDef X G a31 l31 c31 k31 fun _ _ _ _ _ _ us hl => match us, hl with | [_], _ => rfl
    init := ⟨fI, _, fun_mk lI cI kI, tI, fun us hl => match us, hl with | [_, _], _ => rfl⟩
    x_BadBook := ⟨C0, PySem.W.mg_of X G xg0, ⟨⟨_, _, _, _, _, _, _, _, _, _, _, _, _, _, _, xl0, (show PySem.HandSPX.refsVE [.type "ValueError", .type "Exception", .type "BaseException", .type "object"] = true by decide +kernel)⟩, xs0, xe0, xt0, xk0⟩, xi0, xa0, xb0, xw0, ⟨xa0, xb0, xe0, xc0, xo0, zcn, zct, xm0, xr0, xf0, ⟨_, _, _, _, mt0, xl0, rfl⟩, xn0⟩, xh0, xc0⟩
    x_Stray := ⟨C1, PySem.W.mg_of X G xg1, ⟨⟨_, _, _, _, _, _, _, _, _, _, _, _, _, _, _, xl1, (show PySem.HandSPX.refsVE [.type "ValueError", .type "Exception", .type "BaseException", .type "object"] = true by decide +kernel)⟩, xs1, xe1, xt1, xk1⟩, xi1, xa1, xb1, xw1, ⟨xa1, xb1, xe1, xc1, xo1, zcn, zct, xm1, xr1, xf1, ⟨_, _, _, _, mt1, xl1, rfl⟩, xn1⟩, xh1, xc1⟩
    r_Refused := ⟨CR, PySem.W.mg_of X G rg, rc, rt, rb⟩
    q_BadBook := rq0
    v_BadBook := rv0
    q_Stray := rq1
    v_Stray := rv1
    n_isinstance := PySem.W.mg_none_of X G z0
    n_int := PySem.W.mg_none_of X G z1
    n_bool := PySem.W.mg_none_of X G z2
    n_tuple := PySem.W.mg_none_of X G z3
    n_len := PySem.W.mg_none_of X G z4
    n_list := PySem.W.mg_none_of X G z5
    n_enumerate := PySem.W.mg_none_of X G z6
    n_range := PySem.W.mg_none_of X G z7
    n_min := PySem.W.mg_none_of X G z8
    n_dict := PySem.W.mg_none_of X G z9
    n_sorted := PySem.W.mg_none_of X G z10
    n_set := PySem.W.mg_none_of X G z11
    n_zip := PySem.W.mg_none_of X G z12
    n_repr := PySem.W.mg_none_of X G z13
    c_MOST_STATES := ⟨_, PySem.W.mg_of X G y0⟩
    c_MOST_MESSAGES := ⟨_, PySem.W.mg_of X G y1⟩
    c_GREATEST_MESSAGE := ⟨_, PySem.W.mg_of X G y2⟩
  }
  have gl : T.law.f = fa := Value.ref.inj (Option.some.inj (T.law.g.symm.trans hfa))
  refine ⟨T.law.fd, fun s v => ?_, fun base _ _ => ?_⟩
  · exact (T.law.bind1 s v)
  · rw [← gl]; exact ok_law T
end Nv
open PySem PySem.W PyProof.Rows
set_option maxRecDepth 100000 in
set_option maxHeartbeats 0 in
theorem PySem.Challenge.cw_neverfour_k05_least_books_holds : PySem.Challenge.rw_neverfour_k05_least_books.Holds := by
  w_on; o_law; k_head; (case hw => w_witness2)
  k_fill
  refine Nv.endG (l := PySem.Challenge.rw_neverfour_k05_least_books) (n := 63) (k := 10) (x := "script") (sp := Nv.spLaw) rfl (by decide) rfl ⟨rfl, by decide, by decide⟩ (fun w h Y => PySem.W.kIn_of Y) ?F (fun _ _ a ns hl hS => ⟨a, ns, rfl, hS, hl, fun _ => rfl⟩)
  case F =>
    intro w mg fa h KX G hmg
    refine' Nv.all_mk KX G hmg ?a0 ?l0 ?c0 ?k0 ?a1 ?l1 ?c1 ?k1 ?a2 ?l2 ?c2 ?k2 ?a3 ?l3 ?c3 ?k3 ?df3 ?a4 ?l4 ?c4 ?k4 ?a5 ?l5 ?c5 ?k5 ?a6 ?l6 ?c6 ?k6 ?a7 ?l7 ?c7 ?k7 ?a8 ?l8 ?c8 ?k8 ?a9 ?l9 ?c9 ?k9 ?a10 ?l10 ?c10 ?k10 ?a11 ?l11 ?c11 ?k11 ?a12 ?l12 ?c12 ?k12 ?a13 ?l13 ?c13 ?k13 ?a14 ?l14 ?c14 ?k14 ?a15 ?l15 ?c15 ?k15 ?a16 ?l16 ?c16 ?k16 ?a17 ?l17 ?c17 ?k17 ?a18 ?l18 ?c18 ?k18 ?a19 ?l19 ?c19 ?k19 ?a20 ?l20 ?c20 ?k20 ?a21 ?l21 ?c21 ?k21 ?a22 ?l22 ?c22 ?k22 ?a23 ?l23 ?c23 ?k23 ?a24 ?l24 ?c24 ?k24 ?a25 ?l25 ?c25 ?k25 ?a26 ?l26 ?c26 ?k26 ?a27 ?l27 ?c27 ?k27 ?a28 ?l28 ?c28 ?k28 ?a29 ?l29 ?c29 ?k29 ?a30 ?l30 ?c30 ?k30 ?a31 ?l31 ?c31 ?k31 ?lI ?cI ?kI ?tI ?xg0 ?xl0 ?xs0 ?xe0 ?xt0 ?xk0 ?xi0 ?xa0 ?xb0 ?xw0 ?xh0 ?xc0 ?xm0 ?xr0 ?xf0 ?xn0 ?xo0 ?xg1 ?xl1 ?xs1 ?xe1 ?xt1 ?xk1 ?xi1 ?xa1 ?xb1 ?xw1 ?xh1 ?xc1 ?xm1 ?xr1 ?xf1 ?xn1 ?xo1 ?zcn ?zct ?rg ?rc ?rt ?rb ?rq0 ?rv0 ?rq1 ?rv1 ?z0 ?z1 ?z2 ?z3 ?z4 ?z5 ?z6 ?z7 ?z8 ?z9 ?z10 ?z11 ?z12 ?z13 ?y0 ?y1 ?y2
    (case a0 => k_is); (case l0 => k_is); (case c0 => k_is); (case k0 => k_is); (case a1 => k_is); (case l1 => k_is)
    (case c1 => k_is); (case k1 => k_is); (case a2 => k_is); (case l2 => k_is); (case c2 => k_is); (case k2 => k_is)
    (case a3 => k_is); (case l3 => k_is); (case c3 => k_is); (case k3 => k_is); (case df3 => k_is); (case a4 => k_is)
    (case l4 => k_is); (case c4 => k_is); (case k4 => k_is); (case a5 => k_is); (case l5 => k_is); (case c5 => k_is)
    (case k5 => k_is); (case a6 => k_is); (case l6 => k_is); (case c6 => k_is); (case k6 => k_is); (case a7 => k_is)
    (case l7 => k_is); (case c7 => k_is); (case k7 => k_is); (case a8 => k_is); (case l8 => k_is); (case c8 => k_is)
    (case k8 => k_is); (case a9 => k_is); (case l9 => k_is); (case c9 => k_is); (case k9 => k_is); (case a10 => k_is)
    (case l10 => k_is); (case c10 => k_is); (case k10 => k_is); (case a11 => k_is); (case l11 => k_is); (case c11 => k_is)
    (case k11 => k_is); (case a12 => k_is); (case l12 => k_is); (case c12 => k_is); (case k12 => k_is); (case a13 => k_is)
    (case l13 => k_is); (case c13 => k_is); (case k13 => k_is); (case a14 => k_is); (case l14 => k_is); (case c14 => k_is)
    (case k14 => k_is); (case a15 => k_is); (case l15 => k_is); (case c15 => k_is); (case k15 => k_is); (case a16 => k_is)
    (case l16 => k_is); (case c16 => k_is); (case k16 => k_is); (case a17 => k_is); (case l17 => k_is); (case c17 => k_is)
    (case k17 => k_is); (case a18 => k_is); (case l18 => k_is); (case c18 => k_is); (case k18 => k_is); (case a19 => k_is)
    (case l19 => k_is); (case c19 => k_is); (case k19 => k_is); (case a20 => k_is); (case l20 => k_is); (case c20 => k_is)
    (case k20 => k_is); (case a21 => k_is); (case l21 => k_is); (case c21 => k_is); (case k21 => k_is); (case a22 => k_is)
    (case l22 => k_is); (case c22 => k_is); (case k22 => k_is); (case a23 => k_is); (case l23 => k_is); (case c23 => k_is)
    (case k23 => k_is); (case a24 => k_is); (case l24 => k_is); (case c24 => k_is); (case k24 => k_is); (case a25 => k_is)
    (case l25 => k_is); (case c25 => k_is); (case k25 => k_is); (case a26 => k_is); (case l26 => k_is); (case c26 => k_is)
    (case k26 => k_is); (case a27 => k_is); (case l27 => k_is); (case c27 => k_is); (case k27 => k_is); (case a28 => k_is)
    (case l28 => k_is); (case c28 => k_is); (case k28 => k_is); (case a29 => k_is); (case l29 => k_is); (case c29 => k_is)
    (case k29 => k_is); (case a30 => k_is); (case l30 => k_is); (case c30 => k_is); (case k30 => k_is); (case a31 => k_is)
    (case l31 => k_is); (case c31 => k_is); (case k31 => k_is); (case xg0 => k_is); (case xl0 => k_is); (case xs0 => k_is)
    (case xe0 => k_is); (case xt0 => k_is); (case xk0 => k_is); (case xi0 => k_is); (case xa0 => k_is); (case xb0 => k_is)
    (case xw0 => k_is); (case xh0 => k_is); (case xc0 => k_is); (case xm0 => k_is); (case xr0 => k_is); (case xf0 => k_is)
    (case xn0 => k_is); (case xo0 => k_is); (case xg1 => k_is); (case xl1 => k_is); (case xs1 => k_is); (case xe1 => k_is)
    (case xt1 => k_is); (case xk1 => k_is); (case xi1 => k_is); (case xa1 => k_is); (case xb1 => k_is); (case xw1 => k_is)
    (case xh1 => k_is); (case xc1 => k_is); (case xm1 => k_is); (case xr1 => k_is); (case xf1 => k_is); (case xn1 => k_is)
    (case xo1 => k_is); (case zcn => k_is); (case zct => k_is); (case rg => k_is); (case rc => k_is); (case rt => k_is)
    (case rb => k_is); (case rq0 => k_is); (case rv0 => k_is); (case rq1 => k_is); (case rv1 => k_is); (case z0 => k_is)
    (case z1 => k_is); (case z2 => k_is); (case z3 => k_is); (case z4 => k_is); (case z5 => k_is); (case z6 => k_is)
    (case z7 => k_is); (case z8 => k_is); (case z9 => k_is); (case z10 => k_is); (case z11 => k_is); (case z12 => k_is)
    (case z13 => k_is); (case y0 => k_is); (case y1 => k_is); (case y2 => k_is); (case lI => k_is); (case cI => k_is)
    (case kI => k_is); (case tI => k_is)
