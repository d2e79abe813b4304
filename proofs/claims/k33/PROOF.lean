import PyProof.Rows.All
import Wide.All
import OpenK.AllK
import Wide.FinOn
import HandS.ForMost
import HandS.Strs
import HandS.SetFor
import PyProof.Rows.SetFrom
import HandS.IsInst
import HandS.RaiseMore
import PyProof.ReprRoads
import KE.KDictPairs
import HandS.TupAny
import HandS.Iter
import HandS.Walk
import KE.GoesEnum
import HandS.Style
import HandS.Flow
import HandS.Codes
import HandS.Conv
import HandS.Defaults
import PySem.Challenge.RW_neverfour_k33_least_books_have_the_same
import HandS.TupMul
import PyProof.ReprBulk
import PyProof.CallFns
import HandS.DictComp
import HandS.TryOnly
import KE.KeyNested
import PyProof.Rows.TupTab
set_option Elab.async false
set_option linter.all false
set_option maxRecDepth 100000
namespace Nv
open PySem PySem.Spec PyProof.Rows L2
section
variable {P : Program} {w : World} {A : Around} {E : Value → Shared → Prop} {s : Shared}
/-- an empty set as set(..) begins it -/
abbrev noSet (w : World) : Obj := { cls := .type "set", dict := none, data := .set #[] 0 (.fresh 0 0 (!w.params.followText "set-order")) }

/-- set.__init__ of a list of ints -/
theorem fillSet {S l : Addr} {xs : Array Value} {ns : List Int} {Q : Value → Shared → Prop} (quiet : A.handled = none)
    (hS : s.heap.get? S = some (noSet w)) (hl : s.heap.IsList l xs) (hi : IntsAre xs.toList ns) (room : ns.length + 1 < scanBound)
    (k : ∀ (g : Heap) (t c : Nat), SetR w g S (fun j => decide (j ∈ ns)) c → c ≤ ns.length → (∀ b o, b ≠ S → s.heap.get? b = some o → g.get? b = some o) → Q .none { s with heap := g, toks := t }) :
    codeAny (model P w) A (.call (.builtin "set.__init__") ⟨[.ref S, .ref l], []⟩) (wants Q E) s := by
  have sz : xs.size = ns.length := by have q := IntsAre.length hi; rwa [Array.length_toList] at q
  refine codeAny_call_builtin F.called_set.init.plain F.entry_set_init (check_set_init_1 ⟨_, hS, rfl⟩ ?_)
  obtain ⟨⟨lc, ld, ldata, lsl⟩, hol, hcl, nl, hdl⟩ := hl
  simp only at hcl hdl
  subst hcl hdl
  have sub1 := F.sub_list_set
  have sub2 := F.sub_list_frozenset
  have nodict : (Value.type "list" == Value.type "dict") = false := by decide
  have lst : s.heap.IsList l xs := ⟨_, hol, rfl, nl, rfl⟩
  have lS : l ≠ S := fun e => by
    subst e
    exact absurd (congrArg Obj.cls (Option.some.inj (hol.symm.trans hS))) (show ¬ Value.type "list" = Value.type "set" by decide)
  unfold Builtin.«set.__init__» noKeywords Builtin.Frozenset.updateFrom
  generalize hPI : pyIter = PI
  wp_walk
  subst hPI
  refine wpAny_pyIter_list lst ?_
  refine wpAny_bind (wpAny_runValue ?_)
  have lt1 : l < s.heap.objs.size := Heap.lt_size hol
  have lt2 : S < s.heap.objs.size := Heap.lt_size hS
  have q3 : A.in1.in1.handled = none := by simp [quiet]
  have apart : S ∉ [s.heap.objs.size, l] := by
    intro z
    rcases List.mem_cons.mp z with e | z
    · exact absurd e (Nat.ne_of_lt lt2)
    · exact lS (List.mem_singleton.mp z).symm
  have each : ∀ (i : Nat) (v : Value), xs[i]? = some v → ∃ n t, ns[i]? = some n ∧ v = .int n t := fun i v hv => by
    have b : i < ns.length := by rw [← sz]; exact (Array.getElem?_eq_some_iff.mp hv).1
    obtain ⟨t, e⟩ := IntsAre.int_at hi i v (by rw [Array.getElem?_toList]; exact hv)
    refine ⟨ns[i], t, List.getElem?_eq_getElem b, ?_⟩
    rw [e, List.getD_eq_getElem?_getD, List.getElem?_eq_getElem b]
    rfl
  refine set_update_ints ((Walks.list q3 s.heap.objs.size l (Nat.ne_of_lt lt1) xs).toS) S apart ns sz room each (xs.size - 0) 0 _ (by omega) (Nat.zero_le _) ⟨⟨_, Heap.get?_push_size _ rfl, rfl, rfl⟩, lst.push _⟩ ?z ?r
  case z => exact ⟨0, Nat.le_refl 0, setR_new_at (Heap.get?_push_of_some _ hS)⟩
  case r =>
    intro s2 c mv hc R
    obtain ⟨g, g2, d2, t2, o2⟩ := s2
    have e1 : g2 = s.gens := mv.gens
    have e2 : d2 = s.drawn := mv.drawn
    have e3 : o2 = s.os := mv.os
    subst e1 e2 e3
    show wpAny _ _ _ _ _ _
    refine wpAny_pure ?_
    show wpAny _ _ (ret Value.none) _ _ _
    rw [sz] at hc
    refine wpAny_pure (k g t2 c R hc fun b o nb e => ?_)
    have hb : b < s.heap.objs.size := Heap.lt_size e
    refine mv.heap b o (fun z => ?_) (Heap.get?_push_of_some _ e)
    rcases List.mem_cons.mp z with z | z
    · exact nb z
    · exact absurd (List.mem_singleton.mp z) (Nat.ne_of_lt hb)
/-- set(l), l a list of ints -/
theorem setOf {l : Addr} {xs : Array Value} {ns : List Int} {Q : Value → Shared → Prop} (quiet : A.handled = none) (hl : s.heap.IsList l xs) (hi : IntsAre xs.toList ns) (room : ns.length + 1 < scanBound)
    (k : ∀ (g : Heap) (t c : Nat), SetR w g s.heap.objs.size (fun j => decide (j ∈ ns)) c → c ≤ ns.length → (∀ b o, s.heap.get? b = some o → g.get? b = some o) → Q (.ref s.heap.objs.size) { s with heap := g, toks := t }) :
    wpAny (model P w) A (call (.type "set") [.ref l]) Q E s := by
  obtain ⟨c0, tl, mro⟩ := F.called_set.mro
  have made := F.called_set.made
  have sub := F.called_set.sub
  refine wpAny_call (codeAny_of_tree ?_)
  show wpAny _ _ (callAny (.type "set") _) _ _ _
  refine wpAny_pure ⟨Code.quiet_builtin _ (by decide +kernel), codeAny_builtin F.entry_type_call ?_⟩
  rw [Around.under_plain (weight_type_call_type "set" [.ref l] []) rfl]
  have f1 := F.called_set.notType
  have f2 := F.called_set.canCreate
  have f3 := F.typeCall_set_1 (.ref l)
  repeat (any_goals (first | assumption | wp_step))
  refine codeAny_mono (code_set_led1 (w := w) (.ref l) (E := E) (Q₁ := fun v s1 => v = .ref s.heap.objs.size ∧ s1 = { s with heap := s.heap.push (noSet w) }) ⟨rfl, rfl⟩) fun r s1 hr => ?_
  rcases r with e | fl
  · exact hr
  · cases fl with
    | ret v =>
      obtain ⟨rfl, rfl⟩ := hr
      have at0 : (s.heap.push (noSet w)).get? s.heap.objs.size = some (noSet w) := Heap.get?_push_size _ rfl
      have ty : Shared.TypeIs { s with heap := s.heap.push (noSet w) } (.ref s.heap.objs.size) "set" := ⟨_, at0, rfl⟩
      have f4 := F.called_set.init.lookup
      have f5 := F.called_set.init.bind (.ref s.heap.objs.size)
      repeat (any_goals (first | assumption | wp_step))
      refine codeAny_mono (fillSet (E := E) (Q := fun v s2 => v = .none ∧ ∃ g t c, s2 = { s with heap := g, toks := t } ∧ SetR w g s.heap.objs.size (fun j => decide (j ∈ ns)) c ∧ c ≤ ns.length ∧ ∀ b o, s.heap.get? b = some o → g.get? b = some o)
        (by simp [quiet]) at0 (hl.push _) hi room fun g t c R hc kp => ⟨rfl, g, t, c, rfl, R, hc, fun b o e => kp b o (Nat.ne_of_lt (Heap.lt_size e)) (Heap.get?_push_of_some _ e)⟩) fun r2 s2 hr2 => ?_
      rcases r2 with e | fl2
      · exact hr2
      · cases fl2 with
        | ret v2 =>
          obtain ⟨rfl, g, t, c, rfl, R, hc, kp⟩ := hr2
          repeat (any_goals (first | assumption | wp_step))
          exact k g t c R hc kp
        | _ => exact hr2.elim
    | _ => exact hr.elim
end
/-- set(l): the new set -/
def rSetI (K : PySem.W.Frag) (w : World) : List V → Hp → VK → Prop := fun xs H Q => ∃ (l : Addr) (ns : List Int), xs = [.ref l] ∧ SqL K H l (ns.map V.int) ∧ ns.length ≤ 4000 ∧ ∀ (p : Addr) (c : Nat), H p = none → c ≤ ns.length → Q (.ref p) (upd H p (SetO w p (fun j => decide (j ∈ ns)) c))
theorem cr_setI {X : Cx} (hc : X.calm = true) : CallR X (.type "set") (rSetI X.K X.w) := by
  intro pins s σ H xs us Q I r h
  obtain ⟨l, ns, rfl, hq, hz, q⟩ := h
  obtain ⟨u, rfl, rx⟩ := vals1 r
  cases rx
  obtain ⟨its, rv, ⟨o, n, ho, hcl, hd, hdat⟩, _⟩ := I.list hq
  refine setOf (I.ok.hd hc) (show s.heap.IsList l its.toArray from ⟨o, ho, hcl, n, hdat⟩) (ints_of_vals rv) (by unfold scanBound; omega) fun g t c R hcn kp => ?_
  have new : H s.heap.objs.size = none := I.hok.fresh (Nat.le_refl _)
  exact ⟨.ref s.heap.objs.size, upd H s.heap.objs.size (SetO X.w s.heap.objs.size (fun j => decide (j ∈ ns)) c), I.laid (t' := t) kp (Nat.le_refl _) (setO_new R), rfl, q _ c new hcn⟩
end Nv
set_option Elab.async false
set_option linter.all false
set_option maxRecDepth 100000
namespace Nv
open PySem PySem.Spec PyProof.Rows L2
/-! ### tuples whose object is known to have no dict of its own -/
def TupZ (H : Hp) (a : Addr) (xs : List V) : Prop := ∃ o : Obj, H a = some (.frz o (.tup xs)) ∧ o.dict = none
theorem TupZ.sq {K : PySem.W.Frag} {H : Hp} {a : Addr} {xs : List V} (h : TupZ H a xs) : SqT K H a xs := by
  obtain ⟨o, e, _⟩ := h
  exact .inl (.inr ⟨o, e⟩)
def rTupZ (K : PySem.W.Frag) : List V → Hp → VK → Prop := fun xs H Q => ∃ (p : Addr) (ys : List V), xs = [.ref p] ∧ SqL K H p ys ∧ ∀ (l : Addr) (H' : Hp), H l = none → (∃ o : Obj, o.dict = none ∧ H' = upd H l (.frz o (.tup ys))) → Q (.ref l) H'
theorem call_tupZ {X : Cx} : CallR X (.type "tuple") (rTupZ X.K) := by
  intro pins s σ H xs us Q I r h
  obtain ⟨p, ys, rfl, hq, q⟩ := h
  obtain ⟨u, rfl, rx⟩ := vals1 r
  cases rx
  obtain ⟨its, rv, pl, hz⟩ := I.list hq
  have hlen := rv.length
  refine call_tuple_list pl.isList (fun g kp => ?_) (by simp only [List.size_toArray]; omega)
  have I1 : Inv X pins σ H { s with heap := g } := I.kept (t' := s.toks) kp
  have I2 : Inv X pins σ (upd H g.objs.size (.frz { cls := .type "tuple", data := .seq its.toArray } (.tup ys))) { s with heap := g.push { cls := .type "tuple", data := .seq its.toArray } } :=
    I1.laid (t' := s.toks) (fun b o e => Heap.get?_push_of_some _ e) (Nat.le_refl _) (show ObjOk X.prog X.w _ _ _ (.frz _ (.tup ys)) from ⟨Heap.get?_push_size _ rfl, hz, its, rv, IsTup.new _ _⟩)
  exact ⟨.ref g.objs.size, _, I2, rfl, q _ _ (I1.hok.fresh (Nat.le_refl _)) ⟨_, rfl, rfl⟩⟩

theorem pickL {α : Type} {n : Nat} {R : Nat → α → Prop} (h : ∀ j, j < n → ∃ x, R j x) : ∃ l : List α, l.length = n ∧ ∀ j x, l[j]? = some x → R j x := by
  induction n with
  | zero => exact ⟨[], rfl, fun j x e => by simp at e⟩
  | succ n ih =>
    obtain ⟨l, hl, hR⟩ := ih fun j hj => h j (Nat.lt_succ_of_lt hj)
    obtain ⟨x, hx⟩ := h n (Nat.lt_succ_self n)
    refine ⟨l ++ [x], by simp [hl], fun j y e => ?_⟩
    by_cases hj : j < n
    · rw [List.getElem?_append_left (by omega)] at e
      exact hR j y e
    · rw [List.getElem?_append_right (by omega)] at e
      have hj2 : j = n := by
        have := (List.getElem?_eq_some_iff.mp e).1
        simp at this
        omega
      subst hj2
      rw [hl, Nat.sub_self] at e
      cases e
      exact hx
/-! ### dict(t), t such a tuple of pairs -/
def rDictT (K : PySem.W.Frag) : List V → Hp → VK → Prop := fun xs H Q => ∃ (a : Addr) (ps : List Addr) (kvs : List (Key × V)), xs = [.ref a] ∧ TupZ H a (ps.map V.ref) ∧ Paired (fun p kv => SqT K H p [kV kv.1, kv.2]) ps kvs ∧
  ∀ p, H p = none → Q (.ref p) (upd H p (.dK (mergeK [] kvs)))
theorem call_dictT {X : Cx} (hc : X.calm = true) : CallR X (.type "dict") (rDictT X.K) := by
  intro pins s σ H xs us Q I r h
  obtain ⟨a, ps, kvs, rfl, ⟨o, ha, hd⟩, hp, q⟩ := h
  obtain ⟨u, rfl, rx⟩ := vals1 r
  cases rx
  have ok := I.hok a _ ha
  obtain ⟨hget, hz, its, rv, o2, ho2, hcl, n, hdat⟩ := ok
  have eo : o = o2 := Option.some.inj (hget.symm.trans ho2)
  subst eo
  have ei := refs_at rv
  subst ei
  rw [List.length_map] at hz
  obtain ⟨prs, rel, hl, hpr⟩ := pairs_of I hp
  -- the pairs as values
  obtain ⟨ws, wl, hw⟩ := pickL (n := prs.length) (R := fun j (x : Value × Value) => ∃ b kv, ps[j]? = some b ∧ prs[j]? = some kv ∧ kv.2 = x.2 ∧ IsTup s.heap b #[x.1, x.2] ∧ keyIs kv.1 x.1 = true) fun j hj => by
    obtain ⟨b, u, e1, e2, e3⟩ := hpr j prs[j] (List.getElem?_eq_getElem hj)
    exact ⟨(u, prs[j].2), b, prs[j], e1, List.getElem?_eq_getElem hj, rfl, e2, e3⟩
  have P := PairArg.tuple (prog := X.prog) (w := X.w) a (ps.map Value.ref).toArray (fun j => ps.getD j 0) ws
  refine PySem.call_dict_pairs (knd := mixKind X.prog X.w) (kvs := prs) P (I.ok.hd hc) ⟨⟨o, n, hget, hcl, hd, hdat⟩, by simp [wl, hl], fun j k v e => ?_⟩ ⟨by rw [wl], fun i key v e => ?_⟩ (by rw [wl, hl]; exact hz) fun g tk hd' kp => ?_
  · obtain ⟨b, kv, e1, e2, e3, e4, e5⟩ := hw j (k, v) e
    refine ⟨by simp [e1], ?_⟩
    show PairAt s.heap (ps.getD j 0) k v
    rw [List.getD_eq_getElem?_getD, e1]
    obtain ⟨ob, h1, h2, m, h3⟩ := e4
    exact .inl ⟨ob, h1, h2, m, h3⟩
  · obtain ⟨b, kv, e1, e2, e3, e4, e5⟩ := hw i (key, v) e
    obtain ⟨k0, v0⟩ := kv
    cases e3
    exact ⟨k0, e2, e5⟩
  · have kall : ∀ b o, s.heap.get? b = some o → g.get? b = some o := fun b o e => kp b o (by simp) e
    have hm : (s.heap.objs.size == sysModules) = false := beq_eq_false_iff_ne.mpr (Nat.ne_of_gt I.big)
    have hlen : (mergeK [] kvs).length ≤ sizeLine := by
      refine Nat.le_trans (length_mergeK kvs []) ?_
      rw [List.length_nil, Nat.zero_add, rel.length, hl]
      exact hz
    exact ⟨.ref s.heap.objs.size, upd H s.heap.objs.size (.dK (mergeK [] kvs)), I.laid (t' := tk) kall (Nat.le_refl _) (show ObjOk X.prog X.w _ _ _ (.dK (mergeK [] kvs)) from ⟨hlen, hm, merged [] prs, KV.merge rel .nil, hd'⟩), rfl, q _ (I.hok.fresh (Nat.le_refl _))⟩

/-! ### repr -/
theorem isDisp_of {K : PySem.W.Frag} {H : Hp} {a : Addr} {d : PyData} (h : Dp K H (.ref a) d) : (∃ ds, d = .list ds) ∨ ∃ ds, d = .tuple ds := by
  cases h with
  | lst _ _ => exact .inl ⟨_, rfl⟩
  | tup _ _ => exact .inr ⟨_, rfl⟩
/-- repr(x) of data at an address; nothing is being shown around -/
def rRepr (K : PySem.W.Frag) : List V → Hp → VK → Prop := fun xs H Q => ∃ (a : Addr) (d : PyData), xs = [.ref a] ∧ Dp K H (.ref a) d ∧ d.showable = true ∧ d.hasDict = false ∧ d.depth ≤ 60 ∧ d.shown.length ≤ sizeLine ∧ Q (.str d.shown) H
theorem call_reprD {X : Cx} (hu : X.A.units + 64 < cLine) (hg : X.A.guards = some []) : CallR X (.builtin "repr") (rRepr X.K) := by
  intro pins s σ H xs us Q I r h
  obtain ⟨a, d, rfl, hd, h1, h2, h3, h4, q⟩ := h
  obtain ⟨u, rfl, rx⟩ := vals1 r
  obtain ⟨as, rd⟩ := Dp.reads I d _ _ hd rx
  cases rx
  refine repr_of_reads' rd h1 (fun z => by rw [h2] at z; cases z) hg (by omega) (fun b o e => e) (fun g u tk kp => ?_) h4
  exact ⟨.str d.shown, H, I.kept (t' := tk) kp, ⟨u, rfl⟩, q⟩
end Nv
set_option Elab.async false
set_option linter.all false
set_option maxRecDepth 100000
namespace Nv
open PySem PySem.Spec PyProof.Rows L2
/-! ### defs that are called where nothing is being shown (repr looks at that) -/
structure FnG (P : Program) (w : World) (K : PySem.W.Frag) (mg : Str → Option Value) (base : Heap) (CX : CXT) (k : Nat) (f : Addr) (fd : FuncData) (ps : List Str) (sp : Sp) : Prop where
  len : ∀ vs H Q E, sp vs H Q E → vs.length = ps.length
  run : ∀ (A : Around) (outer : List Env) (s : Shared) (H : Hp) (args : Args) (us : List Value) (vs : List V) (Q : VK) (E : XK), A.guards = some [] → Room k A → Env0 P w K mg base A outer s H →
    BindsTo s fd args (ps.zip us) → Vals vs us → sp vs H Q E → codeAny (model P w) A (.call (.ref f) args) (CR CX outer P w H s Q E) s
section
variable {P : Program} {w : World} {K : PySem.W.Frag} {mg : Str → Option Value} {base : Heap} {CX : CXT}
theorem FnG.of {k : Nat} {f : Addr} {fd : FuncData} {ps : List Str} {sp : Sp} (F : FnOk P w K mg base CX k f fd ps sp) : FnG P w K mg base CX k f fd ps sp :=
  ⟨F.len, fun A outer s H args us vs Q E _ r e b v h => F.run A outer s H args us vs Q E r e b v h⟩
/-- a def by its body; in the body nothing is being shown -/
theorem fnG_of {k : Nat} {f : Addr} {name qual : Str} {params : Arguments} {body : List Stmt} {scope : Scope} {dV kV doc pm cdv ct oc : Value} {an od : Option Addr} {osl : Array (Option Value)} {N ps : List Str} {sp : Sp}
    (lk : K.lookup f = some ⟨oc, od, .func (PySem.W.fnOf name qual params body scope dV kV doc pm an cdv ct), osl⟩) (cd : PySem.W.codeIn K cdv qual = true) (S : FnScope N ps scope) (len : ∀ vs H Q E, sp vs H Q E → vs.length = ps.length)
    (walk : ∀ (A : Around) (outer : List Env) (s : Shared) (H : Hp) (vs : List V) (Q : VK) (E : XK), A.guards = some [] → Room k (A.deeper (envOfC qual scope s.heap.objs.size f cdv)) → sp vs H Q E →
      ∃ t, PSs (cxOf CX P w K mg base N qual scope f cdv A outer s H E) body t ∧ t { nx := fun _ H' => Q .non H', rt := Q } (start N vs) H) :
    FnG P w K mg base CX (k + 1) f (PySem.W.fnOf name qual params body scope dV kV doc pm an cdv ct) ps sp := by
  refine ⟨len, fun A outer s H args us vs Q E hg room e0 bind rel want => ?_⟩
  have here : ∀ b o, base.get? b = some o → s.heap.get? b = some o := fun b o e => (e0.bs b o e).1
  have KX : K.In s.heap := e0.mod.kin.keeps here
  have lim : s.heap.NoLimit := e0.mod.nolimit.keeps here
  refine codeAny_call_function room.depth (KX _ _ lk) rfl S.co S.gen rfl (PySem.W.codeRec_of KX cd) (bind _ _ _ _ ?_)
  refine wpAny_newFunctionEnv_cells S.kind (fun ⟨n, v⟩ hy => ?_) fun env he s1 x => ?_
  · rcases S.par n (List.of_mem_zip hy).1 with z | z
    · exact .inl z
    · exact .inr ⟨z, PySem.W.cellsFrom_some _ _ _ (.inl z)⟩
  · subst he
    refine ⟨lim.keeps x.toInCall.keep, codeAny_func ?_⟩
    obtain ⟨t, ht, hq⟩ := walk A outer s H vs Q E hg (room.deeper _) want
    refine wpAny_mono (ht.run [] s1 (start N vs) H _ (inv_start S room.hd e0 (len _ _ _ _ want) rel x) hq) (fun fl s' hs => ?_) fun e s' hs => hs
    cases fl with
    | ret u =>
      obtain ⟨v, σ', H', J, rv, q⟩ := hs
      exact ⟨v, H', J.os, J.bare, J.base, J.hok, rv, q⟩
    | next =>
      obtain ⟨σ', H', J, q⟩ := hs
      exact ⟨V.non, H', J.os, J.bare, J.base, J.hok, rfl, q⟩
    | brk => exact (hs.choose_spec.choose_spec.2 : False).elim
    | cont => exact (hs.choose_spec.choose_spec.2 : False).elim
theorem FunG.ok {x qual : Str} {st : Stmt} {f : Addr} {fd : FuncData} {N ps : List Str} {k : Nat} {sp : Sp} (F : Fun K x qual st f fd) (S : FnScope N ps (defScope st)) (len : ∀ vs H Q E, sp vs H Q E → vs.length = ps.length)
    (walk : ∀ (cdv : Value) (A : Around) (outer : List Env) (s : Shared) (H : Hp) (vs : List V) (Q : VK) (E : XK), A.guards = some [] → Room k (A.deeper (envOfC qual (defScope st) s.heap.objs.size f cdv)) → sp vs H Q E →
      ∃ t, PSs (cxOf CX0 P w K mg base N qual (defScope st) f cdv A outer s H E).nox (defBody st) t ∧ t { nx := fun _ H' => Q .non H', rt := Q } (start N vs) H) : FnG P w K mg base CX0 (k + 1) f fd ps sp := by
  obtain ⟨oc, od, kV, doc, pm, an, cdv, ct, osl, rfl, lk, cd⟩ := F.ex
  refine fnG_of lk cd S len fun A outer s H vs Q E hg hr want => ?_
  obtain ⟨t, h, q⟩ := walk cdv A outer s H vs Q E hg hr want
  exact ⟨t, h.nox, q⟩
end
section
variable {X : Cx} {CX : CXT} {k : Nat} {f : Addr} {fd : FuncData} {ps : List Str} {sp : Sp} {dvs : List V} {ds : List Value} {E : XK} {x : Str} {p pos : Pos} {e : Expr} {es : List Expr} {t : TA}
/-- a call of such a def where nothing is being shown -/
theorem pe_callG (F : FnG X.prog X.w X.K X.mg X.base CX k f fd ps sp) (hG : X.A.guards = some []) (hr : Room k X.A) (hg : Gl X x) (hm : X.mg x = some (.ref f)) (hk : PySem.W.keepIn X.K (.ref f) = true) (hb : Binds X.K fd ps ds) (hd : Vals dvs ds) (hx : Passes CX X E)
    (ha : PA X (e :: es) t) (hdb : (x == ("__debug__" : Str)) = false := by decide) (he : starEach (e :: es) X.env = (false, eval e X.env) :: starEach es X.env := by rfl) (hpl : (backTo pos (starEach es X.env)).any (·.1) = false := by rfl) :
    PE X (.Call (.Name x p) (e :: es) [] pos) (tCall sp dvs E t) := by
  refine ⟨fun pins s σ H Q I h => wpAny_Call_Name_kw (ld_glob I hg hm (PySem.W.callWith_K (h₀ := X.base) I.ok.mod.kin hk (thn (ha.run pos pins s σ H _ I h) fun us s1 ⟨vs, H1, I1, r, q⟩ => ⟨I1.kIn, ?_⟩) he hpl) hdb)⟩
  have r2 : Vals (vs ++ dvs) (us ++ ds) := r.append hd
  have hl : (us ++ ds).length = ps.length := by rw [← r2.length]; exact F.len _ _ _ _ q
  refine wpAny_call (codeAny_mono (F.run X.A X.stack s1 H1 ⟨us, []⟩ (us ++ ds) (vs ++ dvs) Q E hG hr I1.env0 (hb s1 us I1.kIn hl) r2 q) fun rr s' hq => ?_)
  rcases rr with ee | fl
  · exact hx pins σ H1 s1 ee s' I1 hq
  · cases fl with
    | ret u => exact I1.after hq
    | next => exact hq.elim
    | brk => exact hq.elim
    | cont => exact hq.elim
end
/-! ### the end: the law itself, such a def -/
theorem script_gone {P : Program} {w : World} {K : PySem.W.Frag} {h : Heap} {a : Addr} {xs : List Value} {ns : List Int} (KX : K.In h) (ha : h.get? a = some { cls := .type "list", data := .seq xs.toArray }) (hi : IntsAre xs ns) (hl : ns.length ≤ sizeLine) :
    ∃ H : Hp, Only H ∧ SqL K H a (ns.map V.int) ∧ HOk P w H h ∧ (∀ b u, H b = some u → b = a ∧ K.lookup a = none) := by
  have rv := vals_ints hi
  cases hk : K.lookup a with
  | some o =>
    obtain rfl := Option.some.inj ((KX a o hk).symm.trans ha)
    refine ⟨fun _ => none, fun _ => .inl rfl, .inr ⟨_, xs.toArray, _, hk, rfl, rfl, rfl, by rw [List.size_toArray, hi.length]; exact hl, by simpa using rv⟩, fun b u z => (by have z' : (none : Option HO) = some u := z; cases z'), fun b u z => (by have z' : (none : Option HO) = some u := z; cases z')⟩
  | none =>
    have on : ∀ b u, (if b = a then some (HO.frz { cls := .type "list", data := .seq xs.toArray } (.lst (ns.map V.int))) else none) = some u → b = a ∧ u = HO.frz { cls := .type "list", data := .seq xs.toArray } (.lst (ns.map V.int)) := fun b u z => by
      split at z
      · exact ⟨by assumption, (Option.some.inj z).symm⟩
      · cases z
    refine ⟨fun b => if b = a then some (.frz { cls := .type "list", data := .seq xs.toArray } (.lst (ns.map V.int))) else none, fun b => ?_, .inl (.inr ⟨_, if_pos rfl⟩), fun b u z => ?_, fun b u z => ⟨(on b u z).1, rfl⟩⟩
    · by_cases hb : b = a
      · exact .inr ⟨_, _, if_pos hb⟩
      · exact .inl (if_neg hb)
    · obtain ⟨rfl, rfl⟩ := on b u z
      exact ⟨ha, by rw [List.length_map]; exact hl, xs, _, rv, ha⟩
theorem endG {l : PySem.W.OpenLaw} {n k : Nat} {q : Program} {loose : List Str} {XP : (Str → Option Value) → Heap → Prop} {YP : World → Heap → Prop} {d : DefRec} {K : Params → PySem.W.Frag} {sp : PySem.W.Frag → Sp} {x : Str}
    (hn : l.most = some n) (hn2 : n ≤ sizeLine) (hdf : d.params.defaults = []) (hr : Room k callerA) (hY : ∀ (w : World) (h : Heap), YP w h → (K w.params).In h)
    (F : ∀ (w : World) (mg : Str → Option Value) (fa : Addr) (h : Heap), (K w.params).In h → h.Ns mainGlobals mg → mg d.name = some (.ref fa) →
      ∃ fd : FuncData, (∀ (s : Shared) (u : Value), BindsTo s fd ⟨[u], []⟩ [(x, u)]) ∧ ∀ base : Heap, (K w.params).In base → base.Ns mainGlobals mg → FnG l.prog w (K w.params) mg base CX0 k fa fd [x] (sp (K w.params)))
    (hsp : ∀ (K : PySem.W.Frag) (H : Hp) (a : Addr) (ns : List Int), ns.length ≤ n → SqL K H a (ns.map V.int) → sp K [.ref a] H (fun v _ => v = .bl true) fun _ _ _ => False) :
    PySem.W.WalkO q loose XP YP l.row.toRowW d [] (fun f vs => PySem.call f vs) := by
  refine Att.attach_call hn hdf fun w s₀ s1 mg mb fa o pm cd doc a vs ns G Y ho hd hcd hmg hobj hints hlen hg => ?_
  have KX := hY w _ Y
  obtain ⟨fd, hb, hF⟩ := F w mg fa _ KX G.T.g hmg
  have small : ns.length ≤ sizeLine := Nat.le_trans hlen hn2
  obtain ⟨H, only, seen, hok, dom⟩ := script_gone (P := l.prog) (w := w) KX hobj hints small
  -- the heap without the script
  have free : ∀ {b : Addr} {o : Obj}, s1.heap.get? b = some o → (∀ xs k, o.data ≠ .seq xs k) → H b = none := fun {b o} e ne => by
    cases q : H b with
    | none => rfl
    | some u =>
      obtain ⟨rfl, _⟩ := dom b u q
      rw [hobj] at e
      cases e
      exact (ne _ _ rfl).elim
  have ns : ∀ {b : Addr} {m : Str → Option Value}, s1.heap.Ns b m → (hidT s1.heap H).Ns b m := fun {b m} ⟨o, es, ep, e, dd, r⟩ => ⟨o, es, ep, hidT_get e (free e (by rw [dd]; intro _ _ z; cases z)), dd, r⟩
  have inK : (K w.params).In (hidT s1.heap H) := fun b o e => hidT_get (KX b o e) (by
    cases q : H b with
    | none => rfl
    | some u =>
      obtain ⟨rfl, z⟩ := dom b u q
      rw [z] at e
      cases e)
  have M : Mod (K w.params) mg (hidT s1.heap H) := ⟨inK, ns G.T.g, ⟨mb, ns G.T.b, G.T.builtins⟩, let ⟨mc, h1, h2⟩ := G.T.nolimit; ⟨mc, ns h1, h2⟩⟩
  have e0 : Env0 l.prog w (K w.params) mg (hidT s1.heap H) callerA [] s1 H := ⟨rfl, M, fun b o e => of_hidT e, Nat.le_of_eq (hidT_size _ _), trivial, fun b z => absurd (show b ∈ ([] : List Addr) from z) (by simp), hok, AllBare.of_eq hg⟩
  refine codeAny_mono ((hF _ inK (ns G.T.g)).run callerA [] s1 H ⟨[.ref a], []⟩ [.ref a] [.ref a] _ _ rfl hr e0 (hb s1 (.ref a)) (.cons rfl .nil) (hsp _ H a _ hlen seen)) fun r s' h => ?_
  rcases r with e | fl
  · exact (h : False).elim
  · cases fl with
    | next => exact (h : False).elim
    | brk => exact (h : False).elim
    | cont => exact (h : False).elim
    | ret u =>
      obtain ⟨v, H', os, bare, un, hok', rv, qv⟩ := h
      obtain rfl : v = .bl true := qv
      obtain rfl : u = Value.bool true := rv
      refine ⟨rfl, OldK.of_keep fun b o e => ?_, os, bare⟩
      cases z : H b with
      | none => exact un.keep b o e z (fun z => absurd (show b ∈ ([] : List Addr) from z) (by simp)) (by simp)
      | some u =>
        obtain ⟨ob, ys, z2⟩ : ∃ ob ys, H b = some (.frz ob (.lst ys)) := by
          rcases only b with z3 | z3
          · rw [z3] at z; cases z
          · exact z3
        obtain ⟨g1, _⟩ := hok b _ z2
        obtain ⟨g2, _⟩ := hok' b _ (un.frzs b ob _ z2)
        rw [e] at g1
        cases g1
        exact g2
end Nv
set_option Elab.async false
set_option linter.all false
set_option maxRecDepth 100000
namespace Nv
open PySem PySem.Spec PyProof.Rows L2
/-! ### the layer's rules with the written part named (within a comprehension's block) -/
section
variable {X : Cx} (K : PySem.W.Frag)
theorem ix_listK (h : X.K = K := by rfl) : IxR X (rIxL K) := by subst h; exact ix_list
theorem ix_tupK (h : X.K = K := by rfl) : IxR X (rIxT K) := by subst h; exact ix_tup
theorem op_in_seqK (h : X.K = K := by rfl) : OpR X (compareOp .In) (rIn K false) := by subst h; exact op_in_seq
theorem op_notIn_seqK (h : X.K = K := by rfl) : OpR X (compareOp .NotIn) (rIn K true) := by subst h; exact op_notIn_seq
def rLen (K : PySem.W.Frag) : List V → Hp → VK → Prop := fun xs H Q => ∃ p ys, xs = [.ref p] ∧ (SqL K H p ys ∨ SqT K H p ys) ∧ Q (.int ys.length) H
theorem call_len_seqK (h : X.K = K := by rfl) : CallR X (.builtin "len") (rLen K) := by subst h; exact call_len_seq
theorem mt_indexK (h : X.K = K := by rfl) : MtR X "list.index" (rIndex K) := by subst h; exact mt_index
theorem call_tupZK (h : X.K = K := by rfl) : CallR X (.type "tuple") (rTupZ K) := by subst h; exact call_tupZ
def rListOf (K : PySem.W.Frag) : List V → Hp → VK → Prop := fun xs H Q => ∃ p ys, xs = [.ref p] ∧ (SqL K H p ys ∨ SqT K H p ys) ∧ ∀ l, H l = none → Q (.ref l) (upd H l (.lst ys))
theorem call_list_ofK (h : X.K = K := by rfl) : CallR X (.type "list") (rListOf K) := by subst h; exact call_list_of
theorem call_dictTK (h : X.K = K := by rfl) (hc : X.calm = true := by rfl) : CallR X (.type "dict") (rDictT K) := by subst h; exact call_dictT hc
theorem cr_setIK (w : World) (h : X.K = K := by rfl) (h2 : X.w = w := by rfl) (hc : X.calm = true := by rfl) : CallR X (.type "set") (rSetI K w) := by subst h h2; exact cr_setI hc
theorem cr_sortedSetK (w : World) (h2 : X.w = w := by rfl) (hc : X.calm = true := by rfl) : CallR X (.builtin "sorted") (rSortedSet w) := by subst h2; exact cr_sortedSet hc
theorem cr_sortedK (h : X.K = K := by rfl) : CallR X (.builtin "sorted") (rSorted K) := by subst h; exact cr_sorted
theorem cr_anyK (h : X.K = K := by rfl) (hc : X.calm = true := by rfl) : CallR X (.builtin "any") (rAny K) := by subst h; exact cr_any hc
theorem cr_sumK (h : X.K = K := by rfl) (hc : X.calm = true := by rfl) : CallR X (.builtin "sum") (rSum K) := by subst h; exact cr_sum hc
theorem call_isiK' (h : X.K = K := by rfl) : CallR X (.builtin "isinstance") (rIsi K) := by subst h; exact call_isi
theorem op_eqDK (hu : X.A.units + 64 < cLine) (h : X.K = K := by rfl) : OpR X (compareOp .Eq) (rEqD K) := by subst h; exact op_eqD hu
theorem op_neDK (hu : X.A.units + 64 < cLine) (h : X.K = K := by rfl) : OpR X (compareOp .NotEq) (rNeD K) := by subst h; exact op_neD hu
theorem sl_listK (h : X.K = K := by rfl) : SlR X (rSlL K) := by subst h; exact sl_list
theorem call_reprDK (hu : X.A.units + 64 < cLine) (hg : X.A.guards = some []) (h : X.K = K := by rfl) : CallR X (.builtin "repr") (rRepr K) := by subst h; exact call_reprD hu hg
theorem pi_listK {tg l : Expr} {tl : TE} (hl : PE X l tl) (h : X.K = K := by rfl) : PI X tg l (iList K tl) := by subst h; exact pi_list hl
theorem pi_tupK {tg l : Expr} {tl : TE} (hl : PE X l tl) (h : X.K = K := by rfl) : PI X tg l (iTup K tl) := by subst h; exact pi_tup hl
theorem pg_tupK {es : List Expr} {k : Nat} {t : TGs} {n : Nat} {pos : Pos} (hc : X.calm = true) (hh : PGs X es t) (h : X.K = K := by rfl) (hn : (assignEach es X.env).length = n := by rfl) (hst : (assignEach es X.env).findIdx? (·.1) = none := by rfl) :
    PG X (.Tuple es k pos) (gTup K n t) := by subst h; exact pg_tup hc hh hn hst
theorem pe_bmK {T id : String} {name : Str} {o e : Expr} {es : List Expr} {to : TE} {t : TA} {r : V → List V → Hp → VK → Prop} {apos cpos : Pos} (pa : PlainAttrs T) (slot : Slot T name id) (hty : typeOf (.builtin id) = pure (.type "method_descriptor")) (hm : MtR X id r) (ho : PE X o to) (ha : PA X (e :: es) t)
    (h : X.K = K := by rfl) (hbase : attributeBase o name X.env (eval o X.env) = eval o X.env := by rfl)
    (hfew : ((backTo cpos (starEach (e :: es) X.env)).all (fun x => !x.1) && (backToKw cpos (keywordEach [] X.env)).all (fun x => x.1.isSome)
      && decide ((e :: es).length + ([] : List Keyword).length + (if ([] : List Keyword).isEmpty then 0 else 1) < 30)) = true := by rfl)
    (hline : (apos.endLine == cpos.line) = true := by rfl) (hs : starEach (e :: es) X.env = (false, eval e X.env) :: starEach es X.env := by rfl) (hplain : (backTo cpos (starEach es X.env)).any (·.1) = false := by rfl) :
    PE X (.Call (.Attribute o name apos) (e :: es) [] cpos) (tBM K T r to t) := by subst h; exact pe_bm pa slot hty hm ho ha hbase hfew hline hs hplain
end
end Nv
set_option Elab.async false
set_option linter.all false
set_option maxRecDepth 100000
namespace Nv
open PySem PySem.Spec PyProof.Rows L2
open AutoSeq1 (wpAny_loadPart')
/-! ### enumerate(t), t a tuple -/
abbrev tupIt (t : Addr) : Obj := { cls := .type "tuple_iterator", data := .fields #[.ref t, .int 0 0] }
abbrev enumOb (i : Addr) : Obj := { cls := .type "enumerate", data := .fields #[.none, .bool false, .ref i, rawInt 0, .none, .none] }
theorem new_enumT (t : Addr) (xs : Array Value) (n : Nat) (dct : Option Addr) (sl : Array (Option Value)) :
    Meets (Builtin.«enumerate.__new__» ⟨[.type "enumerate", .ref t], []⟩) (fun _ R s => s.heap.get? t = some { cls := .type "tuple", dict := dct, data := .seq xs n, slots := sl } ∧
      R (.ok (.ret (.ref (s.heap.push (tupIt t)).objs.size))) { s with heap := (s.heap.push (tupIt t)).push (enumOb s.heap.objs.size) }) :=
  .of_wp fun prog w A R s h => by
    obtain ⟨hp, g, d, tk, os⟩ := s
    obtain ⟨ht, h⟩ := h
    have sub := sub_enumerate
    have hT : Heap.IsTuple (Shared.heap ⟨hp, g, d, tk, os⟩) t xs := ⟨_, ht, rfl, n, rfl⟩
    wp_walk using wpAny_loadPart' ht
    refine wpAny_stack_any fun st => wpAny_pure ?_
    split
    · rename_i c _ _ _ _ _
      cases (c == Value.type "enumerate")
      · wp_walk using wpAny_loadPart' ht, wpAny_pyIter_tuple hT
        exact ⟨_, rfl, h⟩
      · wp_walk using wpAny_loadPart' ht, wpAny_pyIter_tuple hT
        exact ⟨_, rfl, h⟩
    · wp_walk using wpAny_loadPart' ht, wpAny_pyIter_tuple hT
      exact ⟨_, rfl, h⟩
section
variable {prog : Program} {w : World} {A : Around} {E : Value → Shared → Prop} {s : Shared}
theorem call_enumT {t : Addr} {xs : Array Value} {Q : Value → Shared → Prop} (hT : s.heap.IsTuple t xs)
    (k : ∀ g, IsEnum g (s.heap.objs.size + 1) s.heap.objs.size 0 .none → g.IsTupleIter s.heap.objs.size t 0 → (∀ b o, s.heap.get? b = some o → g.get? b = some o) → Q (.ref (s.heap.objs.size + 1)) { s with heap := g }) :
    wpAny (model prog w) A (call (.type "enumerate") [.ref t]) Q E s := by
  obtain ⟨⟨c, dct, dt, sl⟩, ht, hc, n, hd⟩ := hT
  have hc2 : c = .type "tuple" := hc
  have hd2 : dt = .seq xs n := hd
  subst hc2 hd2
  refine callType_new F.called_enumerate (by decide) (F.typeCall_enumerate_1 _) (F.newCall_enumerate_1 _) (fun obj => F.args_object_init_2 obj _) F.entry_enumerate_new (new_enumT t xs n dct sl) ⟨ht, ?_⟩
  have sz : (s.heap.push (tupIt t)).objs.size = s.heap.objs.size + 1 := Heap.size_push ..
  have he := Heap.get?_push_size (s.heap.push (tupIt t)) (o := enumOb s.heap.objs.size) rfl
  rw [sz] at he
  show _ ∧ _
  rw [sz]
  exact ⟨⟨_, he, rfl⟩, k _ he ⟨_, Heap.get?_push_of_some _ (Heap.get?_push_size _ rfl), rfl, rfl⟩ fun b o x => Heap.get?_push_of_some _ (Heap.get?_push_of_some _ x)⟩
end
/-- the tuple at a, each item in a new pair with its number -/
def IteT (K : PySem.W.Frag) (a : Addr) : It :=
  ⟨fun i H => ∃ (xs : List V) (x : V), SqT K H a xs ∧ xs[i]? = some x, fun i H v H' => ∃ T x, v = .ref T ∧ H T = none ∧ H' = upd H T (.tup [.int (i : Nat), x]) ∧ ∀ xs, SqT K H a xs → xs[i]? = some x, fun i H => ∃ xs : List V, SqT K H a xs ∧ xs.length = i⟩
theorem turn_enumT {P : Program} {w : World} {K : PySem.W.Frag} {elts : List Expr} {kk : Nat} {tpos : Pos} (a e it : Addr) :
    Turn P w K (.Tuple elts kk tpos) (IteT K a) [e, it] e (fun i h => (∃ old, IsEnum h e it ((i : Nat) : Int) old) ∧ h.IsTupleIter it a i ∧ e ≠ it) where
  mem := by simp
  obj := fun i h st b hb => by
    obtain ⟨⟨old, he⟩, ⟨o, ho, hc, hd⟩, _⟩ := st
    rcases List.mem_cons.mp hb with z | z
    · rw [z]; exact ⟨_, he, fun v q => nomatch q⟩
    · rw [List.mem_singleton.mp z]; exact ⟨o, ho, fun v q => by rw [hd] at q; cases q⟩
  keep := fun i h h' st k => let ⟨⟨old, he⟩, hi, hne⟩ := st; ⟨⟨old, k e (by simp) _ he⟩, hi.at fun o q => k it (by simp) o q, hne⟩
  item := by
    intro X hP hw hK hc i pins s σ H E I hf st hg
    subst hP hw hK
    obtain ⟨⟨old, he⟩, hit, hne⟩ := st
    obtain ⟨xs, x, hq, hx⟩ := hg
    obtain ⟨its, rv, p, hz⟩ := I.tuple hq
    obtain ⟨u, hu, ru⟩ := rv.get hx
    have hel : e < s.heap.objs.size := Heap.lt_size he
    have hil : it < s.heap.objs.size := by obtain ⟨_, q, _⟩ := hit; exact Heap.lt_size q
    have hIT : s.heap.IsTuple a its.toArray := p
    have hail : a ≠ it := fun z => by
      obtain ⟨o, q1, q2, _⟩ := hit
      obtain ⟨o', q3, q4, _⟩ := hIT
      rw [z, q1] at q3
      cases q3
      rw [q2] at q4
      exact absurd q4 (by decide)
    have hae : e ∉ [it, a] := fun z => by
      rcases List.mem_cons.mp z with z | z
      · exact hne z
      · have z := List.mem_singleton.mp z
        obtain ⟨o', q3, q4, _⟩ := hIT
        have he' : s.heap.get? e = some _ := he
        rw [z, q3] at he'
        cases he'
        exact absurd q4 (show ¬ Value.type "enumerate" = Value.type "tuple" by decide)
    have D := Draws.tuple (prog := X.prog) (w := X.w) (A := X.A.in1) (I.ok.hd hc) it a hail its.toArray
    have hil2 : i < its.toArray.size := by
      have := (List.getElem?_eq_some_iff.mp hu).1
      simpa using this
    refine wpAny_pyNext_enum_itemD D he ⟨hit, hIT⟩ hil2 hne hae fun y g tk hy ho hst hT hsz hk => ?_
    have hyu : y = u := by
      have : its.toArray[i]? = some u := by simpa using hu
      rw [this] at hy
      exact (Option.some.inj hy).symm
    subst hyu
    refine ⟨_, rfl, wpAny_letOwnedTupleGo_enum (s := { s with heap := g, toks := tk + 1 }) ho fun g2 he' sb => ?_⟩
    have hT2 : g2.get? s.heap.objs.size = some { cls := .type "tuple", data := .seq #[.int i tk, y] } := (sb.2 _ (Nat.ne_of_gt hel)).trans hT
    have new : ObjOk X.prog X.w (upd H s.heap.objs.size (.tup [.int (i : Nat), x])) g2 s.heap.objs.size (.tup [.int (i : Nat), x]) :=
      ⟨by show 2 ≤ sizeLine; decide, [.int i tk, y], .cons ⟨_, rfl⟩ (.cons ru .nil), ⟨_, hT2, rfl, _, rfl⟩⟩
    have I1 : Inv X pins σ (upd H s.heap.objs.size (.tup [.int (i : Nat), x])) { s with heap := g2, toks := tk + 1 } :=
      I.turnedNew (ch := [e, it]) (fun b ob hb q => (sb.2 b (fun z => hb (by simp [z]))).trans (hk b ob (fun z => hb (by simp [z])) (fun z => hb (by simp [z])) q)) hf (Nat.le_refl _) new
    refine ⟨.ref s.heap.objs.size, _, I1, rfl, ⟨_, x, rfl, I.hok.fresh (Nat.le_refl _), rfl, fun ys hy => by rw [I.tuple_inj hy hq]; exact hx⟩, ⟨⟨y, ?_⟩, hst.1.at fun o q => (sb.2 it (Ne.symm hne)).trans q, hne⟩, fun b hb => ?_⟩
    · have e1 : ((i + 1 : Nat) : Int) = (i : Int) + 1 := by omega
      rw [e1]
      exact he'
    · have hb' : b < s.heap.objs.size := by
        rcases List.mem_cons.mp hb with z | z
        · rw [z]; exact hel
        · rw [List.mem_singleton.mp z]; exact hil
      rw [upd_ne (Nat.ne_of_lt hb')]
      exact (hf b hb).1
  done := by
    intro X hP hw hK hc i pins s σ H E I hf st hg
    subst hP hw hK
    obtain ⟨⟨old, he⟩, hit, hne⟩ := st
    obtain ⟨xs, hq, hx⟩ := hg
    obtain ⟨its, rv, p, hz⟩ := I.tuple hq
    have hIT : s.heap.IsTuple a its.toArray := p
    have hail : a ≠ it := fun z => by
      obtain ⟨o, q1, q2, _⟩ := hit
      obtain ⟨o', q3, q4, _⟩ := hIT
      rw [z, q1] at q3
      cases q3
      rw [q2] at q4
      exact absurd q4 (by decide)
    obtain ⟨f0, f1, f2, f3, f4, f5⟩ := hf it (by simp)
    have hl := rv.length
    have D := Draws.tuple (prog := X.prog) (w := X.w) (A := X.A.in1) (I.ok.hd hc) it a hail its.toArray
    have ei : i = its.toArray.size := by simp; omega
    rw [ei] at hit
    exact wpAny_pyNext_enum_endD D he ⟨hit, hIT⟩ fun g eb => ⟨rfl, I.turned (t' := s.toks) (fun b o hb q => eb b o hb q) f0 f1 f3 f4 f5⟩
  self := fun A i s Q E st h => let ⟨⟨_, he⟩, _⟩ := st; wpAny_pyIter_enum he h
def iEnumT (K : PySem.W.Frag) (ta : TA) : TI := fun σ H R => ta σ H fun vs H1 => ∃ a xs, vs = [.ref a] ∧ SqT K H1 a xs ∧ R (IteT K a) H1
theorem pi_enumT {X : Cx} {e : Expr} {ta : TA} {p pos tpos : Pos} {elts : List Expr} {kk : Nat} (hg : Gl X "enumerate") (hm : X.mg "enumerate" = none) (ha : PA X [e] ta) (hs : starEach [e] X.env = [(false, eval e X.env)] := by rfl) :
    PI X (.Tuple elts kk tpos) (.Call (.Name "enumerate" p) [e] [] pos) (iEnumT X.K ta) := by
  refine ⟨fun pins s σ H R I h => Call_ (ld_blt I hg hm boot_enumerate (PyProof.Rows.callWith_type1 (thn (ha.run pos pins s σ H _ I h) fun us s1 ⟨vs, H1, I1, r1, q1⟩ => ?_) hs rfl))⟩
  obtain ⟨a, xs, rfl, hq, q⟩ := q1
  obtain ⟨u, rfl, rx⟩ := vals1 r1
  cases rx
  obtain ⟨its, rv, p', hz⟩ := I1.tuple hq
  refine call_enumT (xs := its.toArray) p' fun g he hit hk => wpAny_pyIter_enum he ?_
  have I2 : Inv X pins σ H1 { s1 with heap := g } := I1.kept (t' := s1.toks) hk
  refine ⟨s1.heap.objs.size + 1, [s1.heap.objs.size + 1, s1.heap.objs.size], _, _, H1, rfl, I2, turn_enumT a (s1.heap.objs.size + 1) s1.heap.objs.size, ⟨⟨.none, he⟩, hit, Nat.succ_ne_self _⟩, fun b hb => ?_, q⟩
  have hle : s1.heap.objs.size ≤ b := by
    rcases List.mem_cons.mp hb with z | z
    · rw [z]; exact Nat.le_add_right _ _
    · rw [List.mem_singleton.mp z]; exact Nat.le_refl _
  exact I1.fpOk hle (I1.hok.fresh hle)
theorem walk_enumT {K : PySem.W.Frag} {a : Addr} {xs : List V} : Walk (IteT K a) xs.length (fun H => SqT K H a xs) (YPair (fun i => some (.int (i : Nat))) (fun i => xs[i]?)) where
  goes := fun i H hi h => ⟨xs, xs[i], h, List.getElem?_eq_getElem hi⟩
  stops := fun H h => ⟨xs, h, rfl⟩
  yields := fun i H x H' _ h y => by
    obtain ⟨T, z, e1, e2, e3, e4⟩ := y
    exact ⟨T, .int (i : Nat), z, e1, e2, e3, rfl, e4 xs h⟩
end Nv
set_option Elab.async false
set_option linter.all false
set_option maxRecDepth 100000
namespace Nv
open PySem PySem.Spec PyProof.Rows L2
def topS (i : Nat) : Stmt := PySem.Challenge.pw_neverfour_k33_least_books_have_the_same.main.body.getD i (.Pass ⟨0, 0, 0, 0⟩)
abbrev s_whole : Stmt := topS 1
abbrev s_whole_within : Stmt := topS 2
abbrev s_tuple_within : Stmt := topS 3
abbrev s_first_rows : Stmt := topS 4
abbrev s_by_meeting : Stmt := topS 5
abbrev s_least_states : Stmt := topS 6
abbrev s_made_book : Stmt := topS 16
abbrev s_check_form : Stmt := topS 17
abbrev s_has_state_form : Stmt := topS 18
abbrev s_fork_states : Stmt := topS 20
abbrev s_led_to : Stmt := topS 21
abbrev s_reach : Stmt := topS 22
abbrev s_ways_back : Stmt := topS 24
abbrev s_ring_states : Stmt := topS 25
abbrev s_forks_on_rings : Stmt := topS 26
abbrev s_made_window : Stmt := topS 28
abbrev s_check_number : Stmt := topS 29
abbrev s_ranks : Stmt := topS 30
abbrev s_lasting : Stmt := topS 31
abbrev s_leading_to : Stmt := topS 32
abbrev s_ranks_for : Stmt := topS 33
abbrev s_lasting_for : Stmt := topS 34
abbrev s_from_window : Stmt := topS 37
abbrev s_verdict : Stmt := topS 38
abbrev s_least_for : Stmt := topS 39
abbrev s_least_free : Stmt := topS 40
abbrev s_ray_counts : Stmt := topS 41
abbrev s_least_book : Stmt := topS 43
abbrev s_law_pool : Stmt := topS 45
abbrev s_law_draw : Stmt := topS 46
abbrev s_law_pick : Stmt := topS 47
abbrev s_law_turned : Stmt := topS 48
abbrev s_law_book_meeting : Stmt := topS 49
abbrev s_law_book_messages : Stmt := topS 50
abbrev s_law_book_drawn : Stmt := topS 51
abbrev s_law_book_next : Stmt := topS 52
abbrev s_law_book_renamed : Stmt := topS 53
abbrev s_law_book_copied : Stmt := topS 54
abbrev s_law_book_led : Stmt := topS 55
abbrev s_law_led_right : Stmt := topS 56
abbrev s_law : Stmt := topS 57
structure DefAt (K : PySem.W.Frag) (mg : Str → Option Value) (name : Str) (st : Stmt) (ps : List Str) where
  f : Addr
  fd : FuncData
  F : Fun K name name st f fd
  g : mg name = some (.ref f)
  bd : ∀ us : List Value, us.length = ps.length → bindArgs fd ⟨us, []⟩ = pure (ps.zip us)
structure FunE (K : PySem.W.Frag) (x qual : Str) (st : Stmt) (dvs : List V) (f : Addr) (fd : FuncData) : Prop where
  d : FunD K x qual (defArgs st) (defBody st) (defScope st) dvs [] f fd
theorem FunE.kp {K : PySem.W.Frag} {x qual : Str} {st : Stmt} {dvs : List V} {f : Addr} {fd : FuncData} (F : FunE K x qual st dvs f fd) : PySem.W.keepIn K (.ref f) = true := F.d.kp
theorem FunE.ok {P : Program} {w : World} {K : PySem.W.Frag} {mg : Str → Option Value} {base : Heap} {x qual : Str} {st : Stmt} {dvs : List V} {f : Addr} {fd : FuncData} {N ps : List Str} {k : Nat} {sp : Sp} (F : FunE K x qual st dvs f fd) (S : FnScope N ps (defScope st)) (len : ∀ vs H Q E, sp vs H Q E → vs.length = ps.length)
    (hbody : ∀ (cdv : Value) (A : Around) (outer : List Env) (s : Shared) (H : Hp) (vs : List V) (Q : VK) (E : XK), Room k (A.deeper (envOfC qual (defScope st) s.heap.objs.size f cdv)) → sp vs H Q E →
      ∃ t, PSs (cxOf CX0 P w K mg base N qual (defScope st) f cdv A outer s H E).nox (defBody st) t ∧ t { nx := fun _ H' => Q .non H', rt := Q } (start N vs) H) : FnOk P w K mg base CX0 (k + 1) f fd ps sp :=
  F.d.ok S len fun cdv A outer s H vs Q E hr hsp => by
    obtain ⟨t, h, q⟩ := hbody cdv A outer s H vs Q E hr hsp
    exact ⟨t, h.nox, q⟩
structure DefAtD (K : PySem.W.Frag) (mg : Str → Option Value) (name : Str) (st : Stmt) (ps : List Str) (dvs : List V) where
  f : Addr
  fd : FuncData
  F : FunE K name name st dvs f fd
  g : mg name = some (.ref f)
  b : Binds K fd ps []
  bD : ∃ ds, Vals dvs ds ∧ Binds K fd ps ds
theorem DefAt.b {K : PySem.W.Frag} {mg : Str → Option Value} {n : Str} {st : Stmt} {ps : List Str} (D : DefAt K mg n st ps) : Binds K D.fd ps [] := .all D.bd
theorem DefAt.bind1 {K : PySem.W.Frag} {mg : Str → Option Value} {n x : Str} {st : Stmt} (D : DefAt K mg n st [x]) (s : Shared) (v : Value) : BindsTo s D.fd ⟨[v], []⟩ [(x, v)] := .of_eq (D.bd [v] rfl)
theorem Room.units0 {k : Nat} {A : Around} (hr : Room k A) : A.units + 1 < cLine := hu_of hr
structure Tx (K : PySem.W.Frag) (mg : Str → Option Value) where
  whole : DefAt K mg "whole" s_whole ["thing"]
  whole_within : DefAt K mg "whole_within" s_whole_within ["thing", "low", "high"]
  tuple_within : DefAt K mg "tuple_within" s_tuple_within ["thing", "low", "high"]
  first_rows : DefAtD K mg "first_rows" s_first_rows ["states", "start"] [.int 0]
  by_meeting : DefAt K mg "by_meeting" s_by_meeting ["states"]
  least_states : DefAt K mg "least_states" s_least_states ["states"]
  made_book : DefAt K mg "made_book" s_made_book ["thing"]
  check_form : DefAt K mg "check_form" s_check_form ["thing"]
  has_state_form : DefAt K mg "has_state_form" s_has_state_form ["thing", "many"]
  fork_states : DefAt K mg "fork_states" s_fork_states ["book"]
  led_to : DefAt K mg "led_to" s_led_to ["book", "state", "message", "many"]
  reach : DefAt K mg "reach" s_reach ["book", "state", "many"]
  ways_back : DefAt K mg "ways_back" s_ways_back ["book", "state"]
  ring_states : DefAt K mg "ring_states" s_ring_states ["book"]
  forks_on_rings : DefAt K mg "forks_on_rings" s_forks_on_rings ["book"]
  made_window : DefAt K mg "made_window" s_made_window ["thing"]
  check_number : DefAt K mg "check_number" s_check_number ["window"]
  ranks : DefAt K mg "ranks" s_ranks ["book", "window"]
  lasting : DefAt K mg "lasting" s_lasting ["book", "window"]
  leading_to : DefAt K mg "leading_to" s_leading_to ["book", "state", "window", "goals"]
  ranks_for : DefAt K mg "ranks_for" s_ranks_for ["book", "window"]
  lasting_for : DefAt K mg "lasting_for" s_lasting_for ["book", "window"]
  from_window : DefAt K mg "from_window" s_from_window ["book"]
  verdict : DefAt K mg "verdict" s_verdict ["book"]
  least_for : DefAt K mg "least_for" s_least_for ["book", "window"]
  least_free : DefAt K mg "least_free" s_least_free ["book"]
  ray_counts : DefAt K mg "ray_counts" s_ray_counts ["book"]
  least_book : DefAt K mg "least_book" s_least_book ["book"]
  law_pool : DefAt K mg "_law_pool" s_law_pool ["script"]
  law_draw : DefAt K mg "_law_draw" s_law_draw ["pool", "many"]
  law_pick : DefAt K mg "_law_pick" s_law_pick ["pool", "things"]
  law_turned : DefAt K mg "_law_turned" s_law_turned ["pool", "many"]
  law_book_meeting : DefAt K mg "_law_book_meeting" s_law_book_meeting ["moves"]
  law_book_messages : DefAt K mg "_law_book_messages" s_law_book_messages ["pool", "count"]
  law_book_drawn : DefAt K mg "_law_book_drawn" s_law_book_drawn ["pool", "states", "most"]
  law_book_next : DefAt K mg "_law_book_next" s_law_book_next ["book", "state", "message"]
  law_book_renamed : DefAt K mg "_law_book_renamed" s_law_book_renamed ["pool", "book"]
  law_book_copied : DefAt K mg "_law_book_copied" s_law_book_copied ["pool", "book", "states"]
  law_book_led : DefAt K mg "_law_book_led" s_law_book_led ["book", "other"]
  law_led_right : DefAt K mg "_law_led_right" s_law_led_right ["book", "least", "windows"]
  law : DefAt K mg "law" s_law ["script"]
  n_isinstance : mg "isinstance" = none
  n_int : mg "int" = none
  n_bool : mg "bool" = none
  n_tuple : mg "tuple" = none
  n_len : mg "len" = none
  n_list : mg "list" = none
  n_enumerate : mg "enumerate" = none
  n_range : mg "range" = none
  n_dict : mg "dict" = none
  n_min : mg "min" = none
  n_sorted : mg "sorted" = none
  n_set : mg "set" = none
  n_any : mg "any" = none
  n_sum : mg "sum" = none
  n_max : mg "max" = none
  n_repr : mg "repr" = none
  c_MOST_STATES : ∃ t, mg "MOST_STATES" = some (.int 8 t)
  c_MOST_MESSAGES : ∃ t, mg "MOST_MESSAGES" = some (.int 5 t)
  c_GREATEST_MESSAGE : ∃ t, mg "GREATEST_MESSAGE" = some (.int 99 t)
  c_LAST_WINDOW : ∃ t, mg "LAST_WINDOW" = some (.int 9 t)
end Nv
set_option Elab.async false
set_option linter.all false
set_option maxRecDepth 100000
namespace Nv
open PySem PySem.Spec PyProof.Rows L2
/-! ### what stays -/
/-- all that was tracked is as it was, but for the addresses of L -/
def Ext (L : List Addr) (H H' : Hp) : Prop := ∀ b o, b ∉ L → H b = some o → H' b = some o
theorem Ext.refl {L : List Addr} {H : Hp} : Ext L H H := fun _ _ _ e => e
theorem Ext.trans {L : List Addr} {H H1 H2 : Hp} (a : Ext L H H1) (b : Ext L H1 H2) : Ext L H H2 := fun c o n e => b c o n (a c o n e)
theorem Ext.mono {L M : List Addr} {H H' : Hp} (a : Ext L H H') (s : ∀ x ∈ L, x ∈ M) : Ext M H H' := fun c o n e => a c o (fun z => n (s c z)) e
theorem Ext.weak {L : List Addr} {H H' : Hp} (a : Ext [] H H') : Ext L H H' := a.mono fun x z => nomatch z
theorem Ext.same {L : List Addr} {H H' : Hp} (a : Same H H') : Ext L H H' := fun c o _ e => a c o e
theorem Ext.toSame {H H' : Hp} (a : Ext [] H H') : Same H H' := fun c o e => a c o (by simp) e
theorem Ext.new {L : List Addr} {H : Hp} {p : Addr} {o : HO} (h : H p = none) : Ext L H (upd H p o) := fun b u _ e => by
  rw [upd_ne (ne_of_none e h)]
  exact e
theorem Ext.wr {L : List Addr} {H : Hp} {p : Addr} {o : HO} (h : p ∈ L) : Ext L H (upd H p o) := fun b u n e => by
  rw [upd_ne (fun z => n (by rw [z]; exact h))]
  exact e
theorem Ext.at {L : List Addr} {H H' : Hp} {p : Addr} {o : HO} (a : Ext L H H') (h : H p = some o) (n : p ∉ L) : H' p = some o := a p o n h
theorem Ext.free {H H' : Hp} {p : Addr} (a : Ext [] H H') (h : H' p = none) : H p = none := a.toSame.free h
/-- drop an address that was free -/
theorem Ext.drop {L : List Addr} {H H' : Hp} {p : Addr} (a : Ext (p :: L) H H') (h : H p = none) : Ext L H H' := fun b o n e => a b o (fun z => by
  rcases List.mem_cons.mp z with z | z
  · exact ne_of_none e h z
  · exact n z) e
theorem Ext.drop2 {L : List Addr} {H H1 H' : Hp} {p : Addr} (s : Ext [] H H1) (a : Ext (p :: L) H1 H') (h : H p = none) : Ext L H H' := Ext.drop ((s.weak).trans a) h
/-- at these addresses stand no tuples -/
def Lsts (L : List Addr) (H : Hp) : Prop := ∀ l ∈ L, ∃ o, H l = some o ∧ (∀ xs, o ≠ .tup xs) ∧ ∀ ob u, o ≠ .frz ob u
theorem Lsts.nil {H : Hp} : Lsts [] H := fun _ z => nomatch z
theorem Lsts.not {L : List Addr} {H : Hp} (l : Lsts L H) {a : Addr} {xs : List V} (h : H a = some (.tup xs)) : a ∉ L := fun z => by
  obtain ⟨o, e, n, _⟩ := l a z
  rw [h] at e
  exact n xs (Option.some.inj e).symm
theorem Lsts.notF {L : List Addr} {H : Hp} (l : Lsts L H) {a : Addr} {ob : Obj} {u : HO} (h : H a = some (.frz ob u)) : a ∉ L := fun z => by
  obtain ⟨o, e, _, n⟩ := l a z
  rw [h] at e
  exact n ob u (Option.some.inj e).symm
theorem Ext.tup {L : List Addr} {H H' : Hp} {K : PySem.W.Frag} {a : Addr} {xs : List V} (e : Ext L H H') (l : Lsts L H) (h : SqT K H a xs) : SqT K H' a xs := by
  rcases h with (h | ⟨o, h⟩) | h
  · exact .inl (.inl (e _ _ (l.not h) h))
  · exact .inl (.inr ⟨o, e _ _ (l.notF h) h⟩)
  · exact .inr h
theorem Ext.tz {L : List Addr} {H H' : Hp} {a : Addr} {xs : List V} (e : Ext L H H') (l : Lsts L H) (h : TupZ H a xs) : TupZ H' a xs := by
  obtain ⟨o, h, d⟩ := h
  exact ⟨o, e _ _ (l.notF h) h, d⟩
theorem Ext.frz {L : List Addr} {H H' : Hp} {K : PySem.W.Frag} {a : Addr} {xs : List V} (e : Ext L H H') (n : a ∉ L) (h : SqL K H a xs) : SqL K H' a xs := by
  rcases h with (h | ⟨o, h⟩) | h
  · exact .inl (.inl (e _ _ n h))
  · exact .inl (.inr ⟨o, e _ _ n h⟩)
  · exact .inr h
theorem two_lsts {p l : Addr} {H : Hp} {xs ys : List V} (h1 : H p = some (.lst xs)) (h2 : H l = some (.lst ys)) : Lsts [p, l] H := fun a z => by
  rcases List.mem_cons.mp z with z | z
  · exact ⟨.lst xs, by rw [z]; exact h1, fun _ q => (nomatch q), fun _ _ q => (nomatch q)⟩
  · exact ⟨.lst ys, by rw [List.mem_singleton.mp z]; exact h2, fun _ q => (nomatch q), fun _ _ q => (nomatch q)⟩
theorem one_lst {p : Addr} {H : Hp} {xs : List V} (h1 : H p = some (.lst xs)) : Lsts [p] H := fun a z => ⟨.lst xs, by rw [List.mem_singleton.mp z]; exact h1, fun _ q => (nomatch q), fun _ _ q => (nomatch q)⟩
theorem one_dk {p : Addr} {H : Hp} {xs : List (Key × V)} (h1 : H p = some (.dK xs)) : Lsts [p] H := fun a z => ⟨.dK xs, by rw [List.mem_singleton.mp z]; exact h1, fun _ q => (nomatch q), fun _ _ q => (nomatch q)⟩
theorem one_tbl {p : Addr} {H : Hp} {xs : Array Value} (h1 : H p = some (.tbl xs)) : Lsts [p] H := fun a z => ⟨.tbl xs, by rw [List.mem_singleton.mp z]; exact h1, fun _ q => (nomatch q), fun _ _ q => (nomatch q)⟩
/-! ### a word between an expression and what follows -/
def tMid (t : TE) : TE := fun σ H Q => ∃ M : VK, t σ H M ∧ ∀ v H', M v H' → Q v H'
theorem pe_mid {X : Cx} {e : Expr} {t : TE} (h : PE X e t) : PE X e (tMid t) := ⟨fun pins s σ H Q I ⟨M, h1, h2⟩ => thn (h.run pins s σ H M I h1) fun u s' ⟨v, H', I', r, m⟩ => ⟨v, H', I', r, h2 v H' m⟩⟩
def tMidT (t : TT) : TT := fun σ H Q => ∃ M : Bool → Hp → Prop, t σ H M ∧ ∀ v H', M v H' → Q v H'
theorem pt_mid {X : Cx} {e : Expr} {t : TT} (h : PT X e t) : PT X e (tMidT t) := ⟨fun pins s σ H Q I ⟨M, h1, h2⟩ => thn (h.run pins s σ H M I h1) fun u s' ⟨H', I', m⟩ => ⟨H', I', h2 _ H' m⟩⟩
/-! ### data: ints -/
theorem ints_lay : ∀ ns : List Int, PyData.canLayAll0 (ns.map PyData.int) = true
  | [] => rfl
  | n :: r => by simp [PyData.canLayAll0, PyData.canLay0, ints_lay r]
theorem ints_depth : ∀ ns : List Int, PyData.depthAll (ns.map PyData.int) = 0
  | [] => rfl
  | n :: r => by simp [PyData.depthAll, PyData.depth, ints_depth r]
theorem ints_show : ∀ ns : List Int, (∀ n ∈ ns, 0 ≤ n ∧ n < 1000) → PyData.showableAll (ns.map PyData.int) = true
  | [], _ => rfl
  | n :: r, h => by
    have h1 := h n (by simp)
    have h2 : n.natAbs.log2 < 1920 := Nat.lt_of_le_of_lt (Nat.log2_le_self _) (by omega)
    simp [PyData.showableAll, PyData.showable, ints_show r fun m hm => h m (by simp [hm]), h2]
theorem ints_nodict : ∀ ns : List Int, PyData.hasDictAll (ns.map PyData.int) = false
  | [] => rfl
  | n :: r => by simp [PyData.hasDictAll, PyData.hasDict, ints_nodict r]
theorem ints_eqv : ∀ ns ms : List Int, PyData.eqvAll (ns.map PyData.int) (ms.map PyData.int) = decide (ns = ms)
  | [], [] => by simp [PyData.eqvAll]
  | [], m :: q => by simp [PyData.eqvAll]
  | n :: r, [] => by simp [PyData.eqvAll]
  | n :: r, m :: q => by
    simp only [List.map_cons, PyData.eqvAll, PyData.eqv, ints_eqv r q, List.cons.injEq]
    by_cases h : n = m <;> simp [h]
theorem dp_ints {K : PySem.W.Frag} {H : Hp} : ∀ (ns : List Int), DpAll K H (ns.map V.int) (ns.map PyData.int)
  | [] => .nil
  | n :: r => .cons (.int n) (dp_ints r)
theorem shaped_ints (ns : List Int) : SeqAt.shaped (.list (ns.map PyData.int)) = true := by simp [SeqAt.shaped, PyData.canLay0, ints_lay, PyData.depth, ints_depth]
theorem shaped_intsT (ns : List Int) : SeqAt.shaped (.tuple (ns.map PyData.int)) = true := by simp [SeqAt.shaped, PyData.canLay0, ints_lay, PyData.depth, ints_depth]
theorem eqv_nil {ns : List Int} : PyData.eqv (.list (ns.map PyData.int)) (.list []) = decide (ns = []) := by
  have h := ints_eqv ns []
  simpa [PyData.eqv] using h
/-! ### books -/
abbrev State := List (Nat × Nat)
abbrev Book := List State
def MvV (K : PySem.W.Frag) (H : Hp) (p : Addr) (m : Nat × Nat) : Prop := SqT K H p [.int m.1, .int m.2]
def StV (K : PySem.W.Frag) (H : Hp) (v : V) (s : State) : Prop := ∃ (a : Addr) (ps : List Addr), v = .ref a ∧ TupZ H a (ps.map V.ref) ∧ Paired (MvV K H) ps s
def BkV (K : PySem.W.Frag) (H : Hp) (v : V) (b : Book) : Prop := ∃ (a : Addr) (vs : List V), v = .ref a ∧ SqT K H a vs ∧ Paired (StV K H) vs b
theorem Paired.imp {α β : Type} {F G : α → β → Prop} : ∀ {l₁ : List α} {l₂ : List β}, Paired F l₁ l₂ → (∀ a b, F a b → G a b) → Paired G l₁ l₂
  | _, _, .nil, _ => .nil
  | _, _, .cons r t, f => .cons (f _ _ r) (Paired.imp t f)
theorem Paired.get {α β : Type} {F : α → β → Prop} : ∀ {l₁ : List α} {l₂ : List β} {i : Nat} {b : β}, Paired F l₁ l₂ → l₂[i]? = some b → ∃ a, l₁[i]? = some a ∧ F a b
  | _, _, _, _, .nil, e => by simp at e
  | _, _, 0, _, .cons r _, e => by cases e; exact ⟨_, rfl, r⟩
  | _, _, i + 1, _, .cons _ t, e => by
    obtain ⟨a, e1, e2⟩ := Paired.get (i := i) t (by simpa using e)
    exact ⟨a, by simpa using e1, e2⟩
theorem Paired.get' {α β : Type} {F : α → β → Prop} : ∀ {l₁ : List α} {l₂ : List β} {i : Nat} {a : α}, Paired F l₁ l₂ → l₁[i]? = some a → ∃ b, l₂[i]? = some b ∧ F a b
  | _, _, _, _, .nil, e => by simp at e
  | _, _, 0, _, .cons r _, e => by cases e; exact ⟨_, rfl, r⟩
  | _, _, i + 1, _, .cons _ t, e => by
    obtain ⟨a, e1, e2⟩ := Paired.get' (i := i) t (by simpa using e)
    exact ⟨a, by simpa using e1, e2⟩
theorem Paired.len {α β : Type} {F : α → β → Prop} : ∀ {l₁ : List α} {l₂ : List β}, Paired F l₁ l₂ → l₁.length = l₂.length
  | _, _, .nil => rfl
  | _, _, .cons _ t => by rw [List.length_cons, List.length_cons, Paired.len t]
theorem Paired.snoc {α β : Type} {F : α → β → Prop} {a : α} {b : β} (h : F a b) : ∀ {l₁ : List α} {l₂ : List β}, Paired F l₁ l₂ → Paired F (l₁ ++ [a]) (l₂ ++ [b])
  | _, _, .nil => .cons h .nil
  | _, _, .cons r t => .cons r (Paired.snoc h t)
theorem StV.ext {L : List Addr} {H H' : Hp} {K : PySem.W.Frag} {v : V} {s : State} (e : Ext L H H') (l : Lsts L H) (h : StV K H v s) : StV K H' v s := by
  obtain ⟨a, ps, rfl, h1, h2⟩ := h
  exact ⟨a, ps, rfl, e.tz l h1, Paired.imp h2 fun _ _ q => e.tup l q⟩
theorem BkV.ext {L : List Addr} {H H' : Hp} {K : PySem.W.Frag} {v : V} {b : Book} (e : Ext L H H') (l : Lsts L H) (h : BkV K H v b) : BkV K H' v b := by
  obtain ⟨a, vs, rfl, h1, h2⟩ := h
  exact ⟨a, vs, rfl, e.tup l h1, Paired.imp h2 fun _ _ q => q.ext e l⟩
theorem BkV.ext0 {H H' : Hp} {K : PySem.W.Frag} {v : V} {b : Book} (h : BkV K H v b) (e : Ext [] H H') : BkV K H' v b := h.ext e Lsts.nil
theorem StV.ext0 {H H' : Hp} {K : PySem.W.Frag} {v : V} {s : State} (h : StV K H v s) (e : Ext [] H H') : StV K H' v s := h.ext e Lsts.nil
/-- values -/
theorem atN {xs : List V} {i : Nat} {v : V} (h : xs[i]? = some v) : atI xs (i : Int) = some v := atI_nat h
abbrev nV (n : Nat) : V := .int (n : Int)
theorem map_at {α : Type} {f : α → V} {xs : List α} {i : Nat} {y : V} (h : (xs.map f)[i]? = some y) : ∃ x, xs[i]? = some x ∧ y = f x := by
  rw [List.getElem?_map] at h
  cases e : xs[i]? with
  | none => rw [e] at h; cases h
  | some x => rw [e] at h; exact ⟨x, rfl, (Option.some.inj h).symm⟩
theorem at_map {α : Type} {f : α → V} {xs : List α} {i : Nat} {x : α} (h : xs[i]? = some x) : (xs.map f)[i]? = some (f x) := by rw [List.getElem?_map, h]; rfl
theorem dec_int {a b : Int} : decide (V.int a = V.int b) = decide (a = b) := by
  by_cases h : a = b
  · subst h; simp
  · rw [decide_eq_false h, decide_eq_false fun e => h (V.int.inj e)]
theorem ifB {b : Bool} {A B : Prop} (h1 : b = true → A) (h2 : b = false → B) : if b = true then A else B := by
  cases b
  · exact iteF (h2 rfl)
  · exact iteT (h1 rfl)
theorem flat_nV (F : List Nat) : (F.map nV).all flatV = true := by
  rw [List.all_eq_true]
  intro v hv
  obtain ⟨n, _, rfl⟩ := List.mem_map.mp hv
  rfl
theorem eqV_nV (a b : Nat) : eqV (nV a) (nV b) = decide (a = b) := by
  unfold nV eqV
  by_cases h : a = b
  · subst h; simp
  · have h2 : ¬ ((a : Int) = (b : Int)) := fun e => h (by omega)
    simp [h, h2]
theorem inV_nV (t : Nat) (F : List Nat) : inV (nV t) (F.map nV) = decide (t ∈ F) := by
  unfold inV
  rw [List.any_map]
  by_cases h : t ∈ F
  · rw [decide_eq_true h, List.any_eq_true]
    exact ⟨t, h, by simp [eqV_nV]⟩
  · rw [decide_eq_false h, List.any_eq_false]
    intro x hx
    simp only [Function.comp, eqV_nV, decide_eq_true_eq]
    exact fun e => h (e ▸ hx)
/-- lists of moves that are not closed yet -/
def LsV (K : PySem.W.Frag) (H : Hp) (v : V) (s : State) : Prop := ∃ (a : Addr) (ps : List Addr), v = .ref a ∧ H a = some (.lst (ps.map V.ref)) ∧ Paired (MvV K H) ps s
def LbV (K : PySem.W.Frag) (H : Hp) (v : V) (b : Book) : Prop := ∃ (a : Addr) (vs : List V), v = .ref a ∧ H a = some (.lst vs) ∧ Paired (LsV K H) vs b
theorem LsV.ext0 {H H' : Hp} {K : PySem.W.Frag} {v : V} {s : State} (h : LsV K H v s) (e : Ext [] H H') : LsV K H' v s := by
  obtain ⟨a, ps, rfl, h1, h2⟩ := h
  exact ⟨a, ps, rfl, e.at h1 (by simp), Paired.imp h2 fun _ _ q => e.tup Lsts.nil q⟩
theorem LbV.ext0 {H H' : Hp} {K : PySem.W.Frag} {v : V} {b : Book} (h : LbV K H v b) (e : Ext [] H H') : LbV K H' v b := by
  obtain ⟨a, ps, rfl, h1, h2⟩ := h
  exact ⟨a, ps, rfl, e.at h1 (by simp), Paired.imp h2 fun _ _ q => q.ext0 e⟩
theorem MvV.ext0 {H H' : Hp} {K : PySem.W.Frag} {p : Addr} {m : Nat × Nat} (h : MvV K H p m) (e : Ext [] H H') : MvV K H' p m := e.tup Lsts.nil h
/-- a list that was made behind H may be written -/
theorem Ext.put {H H' : Hp} {p : Addr} {o : HO} (e : Ext [] H H') (h : H p = none) : Ext [] H (upd H' p o) := Ext.drop (e.weak.trans (.wr (by simp))) h
theorem Ext.put' {L : List Addr} {H H' : Hp} {p : Addr} {o : HO} (e : Ext L H H') (h : H p = none) : Ext L H (upd H' p o) := Ext.drop ((e.mono fun x z => List.mem_cons_of_mem _ z).trans (.wr (by simp))) h
theorem Ext.put2 {L : List Addr} {H H' : Hp} {p : Addr} {o : HO} (e : Ext L H H') (h : H' p = none) : Ext L H (upd H' p o) := e.trans (.new h)
theorem StV.put {H : Hp} {K : PySem.W.Frag} {v : V} {s : State} {p : Addr} {xs ys : List V} (h : StV K H v s) (hp : H p = some (.lst xs)) : StV K (upd H p (.lst ys)) v s := h.ext (L := [p]) (.wr (by simp)) (one_lst hp)
theorem MvV.put {H : Hp} {K : PySem.W.Frag} {q : Addr} {m : Nat × Nat} {p : Addr} {xs ys : List V} (h : MvV K H q m) (hp : H p = some (.lst xs)) : MvV K (upd H p (.lst ys)) q m := Ext.tup (L := [p]) (.wr (by simp)) (one_lst hp) h
theorem yes {σ : L2.St} {H : Hp} {A B : Hp → Prop} (h : A H) : tYes σ H (fun b H3 => if b = true then A H3 else B H3) := by
  show if true = true then A H else B H
  exact iteT h
theorem Ext.free2 {L : List Addr} {H H' : Hp} {x : Addr} (e : Ext L H H') (h : H' x = none) (n : x ∉ L) : H x = none := by
  cases q : H x with
  | none => rfl
  | some o =>
    rw [e x o n q] at h
    cases h
theorem eraseIdx_nV {α β : Type} (f : α → β) : ∀ (L : List α) (k : Nat), (L.map f).eraseIdx k = (L.eraseIdx k).map f
  | [], _ => rfl
  | _ :: _, 0 => rfl
  | a :: r, k + 1 => by simp [eraseIdx_nV f r k]
theorem off2 {p l x : Addr} (a : x ≠ p) (b : x ≠ l) : x ∉ [p, l] := fun z => by
  rcases List.mem_cons.mp z with z | z
  · exact a z
  · exact b (List.mem_singleton.mp z)
/-- such a list, not at one of these addresses -/
def LsN (K : PySem.W.Frag) (H : Hp) (X : List Addr) (v : V) (s : State) : Prop := ∃ (a : Addr) (ps : List Addr), v = .ref a ∧ a ∉ X ∧ H a = some (.lst (ps.map V.ref)) ∧ Paired (MvV K H) ps s
theorem LsN.ls {K : PySem.W.Frag} {H : Hp} {X : List Addr} {v : V} {s : State} (h : LsN K H X v s) : LsV K H v s := by
  obtain ⟨a, ps, e, _, h1, h2⟩ := h
  exact ⟨a, ps, e, h1, h2⟩
theorem LsN.ext {K : PySem.W.Frag} {H H' : Hp} {X Y : List Addr} {v : V} {s : State} (h : LsN K H X v s) (e : Ext Y H H') (yx : ∀ y ∈ Y, y ∈ X) (l : Lsts Y H) : LsN K H' X v s := by
  obtain ⟨a, ps, ea, n, h1, h2⟩ := h
  exact ⟨a, ps, ea, n, e _ _ (fun z => n (yx a z)) h1, Paired.imp h2 fun _ _ q => e.tup l q⟩
def mvD (q : Nat × Nat) : PyData := .tuple [.int (q.1 : Int), .int (q.2 : Int)]
theorem dp_mvs {K : PySem.W.Frag} {H : Hp} : ∀ {ps : List Addr} {s : State}, Paired (MvV K H) ps s → DpAll K H (ps.map V.ref) (s.map mvD)
  | _, _, .nil => .nil
  | _, _, .cons r t => .cons (.tup r (.cons (.int _) (.cons (.int _) .nil))) (dp_mvs t)
theorem mvs_lay : ∀ s : State, PyData.canLayAll0 (s.map mvD) = true
  | [] => rfl
  | q :: r => by simp [PyData.canLayAll0, PyData.canLay0, mvs_lay r, mvD]
theorem mvs_depth : ∀ s : State, PyData.depthAll (s.map mvD) ≤ 1
  | [] => by simp [PyData.depthAll]
  | q :: r => by
    have := mvs_depth r
    simp [PyData.depthAll, PyData.depth, mvD]
    omega
theorem shaped_mvs (s : State) : SeqAt.shaped (.list (s.map mvD)) = true := by
  have := mvs_depth s
  simp [SeqAt.shaped, PyData.canLay0, mvs_lay, PyData.depth]
  omega
theorem eqv_mvs_nil (s : State) : PyData.eqv (.list (s.map mvD)) (.list []) = decide (s = []) := by
  cases s <;> simp [PyData.eqv, PyData.eqvAll]
theorem ixNat {k n : Nat} (h : k < n) : ixN n (k : Int) = some k := by
  unfold ixN
  rw [if_pos (by omega), if_pos (by omega)]
  simp
theorem Paired.set {α β : Type} {F : α → β → Prop} {a : α} {b : β} (h : F a b) : ∀ {l₁ : List α} {l₂ : List β} (k : Nat), Paired F l₁ l₂ → Paired F (l₁.set k a) (l₂.set k b)
  | _, _, _, .nil => .nil
  | _, _, 0, .cons _ t => .cons h t
  | _, _, k + 1, .cons r t => .cons r (Paired.set h k t)
/-- the keys of a dict -/
abbrev kN (n : Nat) : Key := Sum.inl (n : Int)
theorem valV_key {kvs : List (Key × V)} {F : List Nat} (h : kvs.map (·.1) = F.map kN) (n : Nat) : (valV kvs (kN n)).isSome = decide (n ∈ F) := by
  rw [← valV_any]
  have e : (kvs.any fun kv => decide (kv.1 = kN n)) = ((kvs.map (·.1)).any fun k => decide (k = kN n)) := by rw [List.any_map]; rfl
  rw [e, h, List.any_map]
  by_cases m : n ∈ F
  · rw [decide_eq_true m, List.any_eq_true]
    exact ⟨n, m, by simp⟩
  · rw [decide_eq_false m, List.any_eq_false]
    intro x hx
    simp only [Function.comp, decide_eq_true_eq]
    intro e
    have e2 : (x : Int) = (n : Int) := Sum.inl.inj e
    exact m (by rw [show n = x by omega]; exact hx)
theorem valV_mem {kvs : List (Key × V)} {k : Key} {v : V} (h : valV kvs k = some v) : (k, v) ∈ kvs := by
  unfold valV at h
  cases e : kvs.find? (fun kv => decide (kv.1 = k)) with
  | none => rw [e] at h; cases h
  | some p =>
    rw [e] at h
    cases h
    have h1 := List.mem_of_find?_eq_some e
    have h2 := List.find?_some e
    simp at h2
    rw [← h2]
    exact h1
/-! ### books whose states are any tuples -/
def StW (K : PySem.W.Frag) (H : Hp) (v : V) (s : State) : Prop := ∃ (a : Addr) (ps : List Addr), v = .ref a ∧ SqT K H a (ps.map V.ref) ∧ Paired (MvV K H) ps s
def BkW (K : PySem.W.Frag) (H : Hp) (v : V) (b : Book) : Prop := ∃ (a : Addr) (vs : List V), v = .ref a ∧ SqT K H a vs ∧ Paired (StW K H) vs b
theorem BkV.wk {K : PySem.W.Frag} {H : Hp} {v : V} {b : Book} (h : BkV K H v b) : BkW K H v b := by
  obtain ⟨a, vs, rfl, h1, h2⟩ := h
  exact ⟨a, vs, rfl, h1, Paired.imp h2 fun _ _ z => by obtain ⟨c, ps, rfl, h3, h4⟩ := z; exact ⟨c, ps, rfl, h3.sq, h4⟩⟩
theorem BkW.ext {L : List Addr} {H H' : Hp} {K : PySem.W.Frag} {v : V} {b : Book} (e : Ext L H H') (l : Lsts L H) (h : BkW K H v b) : BkW K H' v b := by
  obtain ⟨a, vs, rfl, h1, h2⟩ := h
  exact ⟨a, vs, rfl, e.tup l h1, Paired.imp h2 fun _ _ z => by obtain ⟨c, ps, rfl, h3, h4⟩ := z; exact ⟨c, ps, rfl, e.tup l h3, Paired.imp h4 fun _ _ q => e.tup l q⟩⟩
theorem BkW.ext0 {H H' : Hp} {K : PySem.W.Frag} {v : V} {b : Book} (h : BkW K H v b) (e : Ext [] H H') : BkW K H' v b := h.ext e Lsts.nil
end Nv
set_option linter.all false
namespace Nv
/-! ### books: the mathematics -/
def mvs (b : Book) (s : Nat) : State := b.getD s []
inductive Rch (b : Book) : Nat → Prop
  | zero : Rch b 0
  | step {s : Nat} {p : Nat × Nat} : Rch b s → p ∈ mvs b s → Rch b p.2
/-- a state's form, of a book with n states -/
structure StOk (n : Nat) (s : State) : Prop where
  few : s.length ≤ 5
  rise : (s.map (·.1)).Pairwise (· < ·)
  msg : ∀ p ∈ s, p.1 ≤ 99
  to : ∀ p ∈ s, p.2 < n
/-- the form of a book -/
structure FormB (b : Book) : Prop where
  one : 1 ≤ b.length
  eight : b.length ≤ 8
  st : ∀ s ∈ b, StOk b.length s
structure OkB (b : Book) : Prop extends FormB b where
  reach : ∀ s, s < b.length → Rch b s
theorem mvs_of {b : Book} {s : Nat} {x : State} (h : b[s]? = some x) : mvs b s = x := by
  unfold mvs
  rw [List.getD_eq_getElem?_getD, h]
  rfl
theorem mvs_lt {b : Book} {s : Nat} (h : s < b.length) : b[s]? = some (mvs b s) := by
  rw [mvs_of (List.getElem?_eq_getElem h)]
  exact List.getElem?_eq_getElem h
theorem mvs_mem {b : Book} {s : Nat} (h : s < b.length) : mvs b s ∈ b := List.mem_of_getElem? (mvs_lt h)
theorem mvs_out {b : Book} {s : Nat} (h : b.length ≤ s) : mvs b s = [] := by
  unfold mvs
  rw [List.getD_eq_getElem?_getD, List.getElem?_eq_none h]
  rfl
theorem FormB.ok {b : Book} (h : FormB b) {s : Nat} (hs : s < b.length) : StOk b.length (mvs b s) := h.st _ (mvs_mem hs)
theorem FormB.to {b : Book} (h : FormB b) {s : Nat} {p : Nat × Nat} (hp : p ∈ mvs b s) : p.2 < b.length := by
  by_cases hs : s < b.length
  · exact (h.ok hs).to p hp
  · rw [mvs_out (by omega)] at hp
    cases hp
/-- what meeting finds: F the states in their order -/
structure Met (b : Book) (F : List Nat) : Prop where
  nd : F.Nodup
  zero : F[0]? = some 0
  lt : ∀ s ∈ F, s < b.length
  cl : ∀ s ∈ F, ∀ p ∈ mvs b s, p.2 ∈ F
  from_ : ∀ j s, F[j]? = some s → j ≠ 0 → ∃ i s', i < j ∧ F[i]? = some s' ∧ ∃ p ∈ mvs b s', p.2 = s
def rename (b : Book) (F : List Nat) : Book := F.map fun s => (mvs b s).map fun p => (p.1, F.idxOf p.2)
theorem rename_len {b : Book} {F : List Nat} : (rename b F).length = F.length := by simp [rename]
theorem rename_at {b : Book} {F : List Nat} {j s : Nat} (h : F[j]? = some s) : mvs (rename b F) j = (mvs b s).map fun p => (p.1, F.idxOf p.2) := by
  refine mvs_of ?_
  unfold rename
  rw [List.getElem?_map, h]
  rfl
theorem idx_of {F : List Nat} (nd : F.Nodup) {j s : Nat} (h : F[j]? = some s) : F.idxOf s = j := by
  obtain ⟨hj, e⟩ := List.getElem?_eq_some_iff.mp h
  rw [← e]
  exact List.Nodup.idxOf_getElem nd j hj
theorem nodup_le {n : Nat} {F : List Nat} (nd : F.Nodup) (lt : ∀ s ∈ F, s < n) : F.length ≤ n := by
  have h := (List.nodup_range (n := n))
  have : F ⊆ List.range n := fun s hs => List.mem_range.mpr (lt s hs)
  have := List.Nodup.length_le_of_subset nd this
  simpa using this
theorem Met.okB {b : Book} {F : List Nat} (m : Met b F) (h8 : b.length ≤ 8) (hs : ∀ s, s < b.length → (mvs b s).length ≤ 5 ∧ ((mvs b s).map (·.1)).Pairwise (· < ·) ∧ ∀ p ∈ mvs b s, p.1 ≤ 99) : OkB (rename b F) := by
  have h0 : 0 < F.length := (List.getElem?_eq_some_iff.mp m.zero).1
  have hle : F.length ≤ b.length := nodup_le m.nd m.lt
  refine { one := by rw [rename_len]; exact h0, eight := by rw [rename_len]; omega, st := fun x hx => ?_, reach := fun j hj => ?_ }
  · obtain ⟨s, hsF, rfl⟩ := List.mem_map.mp hx
    obtain ⟨a1, a2, a3⟩ := hs s (m.lt s hsF)
    refine ⟨by rw [List.length_map]; exact a1, ?_, fun p hp => ?_, fun p hp => ?_⟩
    · rw [List.map_map]
      exact a2
    · obtain ⟨q, hq, rfl⟩ := List.mem_map.mp hp
      exact a3 q hq
    · obtain ⟨q, hq, rfl⟩ := List.mem_map.mp hp
      rw [rename_len]
      exact List.idxOf_lt_length_of_mem (m.cl s hsF q hq)
  · rw [rename_len] at hj
    have key : ∀ n, ∀ j, j ≤ n → j < F.length → Rch (rename b F) j := by
      intro n
      induction n with
      | zero =>
        intro j h1 _
        have e : j = 0 := by omega
        rw [e]
        exact .zero
      | succ n ih =>
        intro j h1 h2
        by_cases e : j = 0
        · subst e; exact .zero
        · obtain ⟨i, s', hi, hs', p, hp, ep⟩ := m.from_ j F[j] (List.getElem?_eq_getElem h2) e
          have r := ih i (by omega) (by omega)
          have : (p.1, F.idxOf p.2) ∈ mvs (rename b F) i := by
            rw [rename_at hs']
            exact List.mem_map.mpr ⟨p, hp, rfl⟩
          have r2 := Rch.step r this
          have e2 : F.idxOf p.2 = j := idx_of m.nd (by rw [ep]; exact List.getElem?_eq_getElem h2)
          rw [e2] at r2
          exact r2
    exact key j j (Nat.le_refl _) hj
/-! ### meeting, step by step -/
structure MetI (b : Book) (F : List Nat) (i : Nat) : Prop where
  nd : F.Nodup
  zero : F[0]? = some 0
  lt : ∀ s ∈ F, s < b.length
  from_ : ∀ j s, F[j]? = some s → j ≠ 0 → ∃ i s', i < j ∧ F[i]? = some s' ∧ ∃ p ∈ mvs b s', p.2 = s
  le : i ≤ F.length
  cl : ∀ j s, j < i → F[j]? = some s → ∀ p ∈ mvs b s, p.2 ∈ F
structure MetW (b : Book) (F : List Nat) (i s k : Nat) : Prop extends MetI b F i where
  here : F[i]? = some s
  part : ∀ p ∈ (mvs b s).take k, p.2 ∈ F
theorem MetI.first {b : Book} (h : 1 ≤ b.length) : MetI b [0] 0 where
  nd := by simp
  zero := rfl
  lt := fun s hs => by simp at hs; omega
  from_ := fun j s h n => by
    have := (List.getElem?_eq_some_iff.mp h).1
    simp at this
    omega
  le := by simp
  cl := fun j s h => by omega
theorem MetI.begin {b : Book} {F : List Nat} {i s : Nat} (m : MetI b F i) (h : F[i]? = some s) : MetW b F i s 0 := { m with here := h, part := fun p hp => by simp at hp }
theorem MetW.skip {b : Book} {F : List Nat} {i s k : Nat} {p : Nat × Nat} (m : MetW b F i s k) (h : (mvs b s)[k]? = some p) (hp : p.2 ∈ F) : MetW b F i s (k + 1) := { m with
  part := fun q hq => by
    rw [List.take_add_one, h] at hq
    rcases List.mem_append.mp hq with hq | hq
    · exact m.part q hq
    · simp at hq
      rw [hq]
      exact hp }
theorem MetW.push {b : Book} {F : List Nat} {i s k : Nat} {p : Nat × Nat} (m : MetW b F i s k) (h : (mvs b s)[k]? = some p) (hp : p.2 ∉ F) (hb : p.2 < b.length) : MetW b (F ++ [p.2]) i s (k + 1) := by
  have old : ∀ {j x : Nat}, F[j]? = some x → (F ++ [p.2])[j]? = some x := fun {j x} e => by
    rw [List.getElem?_append_left (List.getElem?_eq_some_iff.mp e).1]
    exact e
  refine { nd := ?_, zero := old m.zero, lt := fun x hx => ?_, from_ := fun j x e n => ?_, le := ?_, cl := fun j x hj e q hq => ?_, here := old m.here, part := fun q hq => ?_ }
  · rw [List.nodup_append]
    refine ⟨m.nd, by simp, fun a ha c hc => ?_⟩
    simp at hc
    rw [hc]
    exact fun z => hp (z ▸ ha)
  · rcases List.mem_append.mp hx with hx | hx
    · exact m.lt x hx
    · simp at hx
      rw [hx]
      exact hb
  · by_cases hj : j < F.length
    · rw [List.getElem?_append_left hj] at e
      obtain ⟨i', s', h1, h2, h3⟩ := m.from_ j x e n
      exact ⟨i', s', h1, old h2, h3⟩
    · rw [List.getElem?_append_right (by omega)] at e
      have hz : j - F.length = 0 := by
        have := (List.getElem?_eq_some_iff.mp e).1
        simp at this
        omega
      rw [hz] at e
      cases e
      have hi := (List.getElem?_eq_some_iff.mp m.here).1
      exact ⟨i, s, by omega, old m.here, p, List.mem_of_getElem? h, rfl⟩
  · rw [List.length_append]
    have := m.le
    omega
  · have hjF : j < F.length := by
      have := m.le
      omega
    rw [List.getElem?_append_left hjF] at e
    exact List.mem_append_left _ (m.cl j x hj e q hq)
  · rw [List.take_add_one, h] at hq
    rcases List.mem_append.mp hq with hq | hq
    · exact List.mem_append_left _ (m.part q hq)
    · simp at hq
      rw [hq]
      simp
theorem MetW.done {b : Book} {F : List Nat} {i s k : Nat} (m : MetW b F i s k) (hk : (mvs b s).length ≤ k) : MetI b F (i + 1) := { m with
  le := (List.getElem?_eq_some_iff.mp m.here).1
  cl := fun j x hj e q hq => by
    by_cases hji : j < i
    · exact m.cl j x hji e q hq
    · have : j = i := by omega
      subst this
      rw [m.here] at e
      cases e
      exact m.part q (by rw [List.take_of_length_le hk]; exact hq) }
theorem MetI.met {b : Book} {F : List Nat} {i : Nat} (m : MetI b F i) (h : i = F.length ∨ i = b.length) : Met b F := { m with
  cl := fun s hs p hp => by
    obtain ⟨j, hj, e⟩ := List.mem_iff_getElem.mp hs
    have : F.length ≤ i := by
      rcases h with h | h
      · omega
      · rw [h]
        exact nodup_le m.nd m.lt
    exact m.cl j s (by omega) (by rw [List.getElem?_eq_getElem hj, e]) p hp }
end Nv
set_option Elab.async false
set_option linter.all false
set_option maxRecDepth 100000
namespace Nv
open PySem PySem.Spec PyProof.Rows L2
/-! ### the form of a book, of any data -/
def wholeD : PyData → Bool
  | .int _ => true
  | _ => false
def inD (d : PyData) (lo hi : Int) : Bool := match d with
  | .int i => decide (lo ≤ i ∧ i ≤ hi)
  | _ => false
def tupD (d : PyData) (lo hi : Int) : Bool := match d with
  | .tuple ds => decide (lo ≤ (ds.length : Int) ∧ (ds.length : Int) ≤ hi)
  | _ => false
/-- a move's form behind the message last: its message -/
def pairD (last n : Int) (d : PyData) : Option Int := match d with
  | .tuple [.int m, .int t] => if last + 1 ≤ m ∧ m ≤ 99 ∧ 0 ≤ t ∧ t ≤ n - 1 then some m else none
  | _ => none
def pairsD (last n : Int) : List PyData → Bool
  | [] => true
  | d :: r => match pairD last n d with
    | some m => pairsD m n r
    | none => false
def stateD (n : Int) (d : PyData) : Bool := match d with
  | .tuple ds => decide (ds.length ≤ 5) && pairsD (-1) n ds
  | _ => false
def firstBad (n : Int) : List PyData → Nat → Option Int
  | [], _ => none
  | d :: r, i => if stateD n d = true then firstBad n r (i + 1) else some (i : Int)
/-- what BadBook tells of it -/
def formErr (d : PyData) : Option Int := match d with
  | .tuple ds => if 1 ≤ ds.length ∧ ds.length ≤ 8 then firstBad ds.length ds 0 else some (-1)
  | _ => some (-1)
theorem dpAll_len {K : PySem.W.Frag} {H : Hp} : ∀ {vs : List V} {ds : List PyData}, DpAll K H vs ds → vs.length = ds.length
  | _, _, .nil => rfl
  | _, _, .cons _ t => by rw [List.length_cons, List.length_cons, dpAll_len t]
theorem dpAll_get {K : PySem.W.Frag} {H : Hp} : ∀ {vs : List V} {ds : List PyData} {i : Nat} {d : PyData}, DpAll K H vs ds → ds[i]? = some d → ∃ v, vs[i]? = some v ∧ Dp K H v d
  | _, _, _, _, .nil, e => by simp at e
  | _, _, 0, _, .cons r _, e => by cases e; exact ⟨_, rfl, r⟩
  | _, _, i + 1, _, .cons _ t, e => by
    obtain ⟨v, h1, h2⟩ := dpAll_get (i := i) t (by simpa using e)
    exact ⟨v, by simpa using h1, h2⟩
theorem dpAll_get' {K : PySem.W.Frag} {H : Hp} : ∀ {vs : List V} {ds : List PyData} {i : Nat} {v : V}, DpAll K H vs ds → vs[i]? = some v → ∃ d, ds[i]? = some d ∧ Dp K H v d
  | _, _, _, _, .nil, e => by simp at e
  | _, _, 0, _, .cons r _, e => by cases e; exact ⟨_, rfl, r⟩
  | _, _, i + 1, _, .cons _ t, e => by
    obtain ⟨v, h1, h2⟩ := dpAll_get' (i := i) t (by simpa using e)
    exact ⟨v, by simpa using h1, h2⟩
/-- the type of data -/
def tyD : PyData → String
  | .none => "NoneType"
  | .bool _ => "bool"
  | .int _ => "int"
  | .str _ => "str"
  | .list _ => "list"
  | .tuple _ => "tuple"
  | .dict _ => "dict"
theorem SqT.tyT {K : PySem.W.Frag} {H : Hp} {a : Addr} {xs : List V} (h : SqT K H a xs) : TyX K H (.ref a) (.type "tuple") := by
  rcases h with (h | ⟨o, h⟩) | ⟨o, its, n, e, c, _⟩
  · exact .base (.tup h)
  · exact .fTuple h
  · exact .kTuple e c
theorem SqL.tyL {K : PySem.W.Frag} {H : Hp} {a : Addr} {xs : List V} (h : SqL K H a xs) : TyX K H (.ref a) (.type "list") := by
  rcases h with (h | ⟨o, h⟩) | ⟨o, its, n, e, c, _⟩
  · exact .base (.lst h)
  · exact .base (.frz h)
  · exact .kList e c
theorem Dp.ty {K : PySem.W.Frag} {H : Hp} {v : V} {d : PyData} (h : Dp K H v d) : TyX K H v (.type (tyD d)) := by
  cases h with
  | non => exact .base .non
  | bl b => exact .base (.bl b)
  | int i => exact .base (.int i)
  | str x => exact .base (.str x)
  | lst h _ => exact SqL.tyL h
  | tup h _ => exact SqT.tyT h
theorem pairs_cons {last n : Int} {d : PyData} {r : List PyData} : pairsD last n (d :: r) = match pairD last n d with | some m => pairsD m n r | none => false := rfl
end Nv
set_option Elab.async false
set_option linter.all false
set_option maxRecDepth 100000
namespace Nv
open PySem PySem.Spec PyProof.Rows L2
/-! ### written data -/
mutual
theorem Dp.ext0 {K : PySem.W.Frag} {H H' : Hp} (e : Ext [] H H') : ∀ {v : V} {d : PyData}, Dp K H v d → Dp K H' v d
  | _, _, .non => .non
  | _, _, .bl b => .bl b
  | _, _, .int i => .int i
  | _, _, .str x => .str x
  | _, _, .lst h t => .lst (e.frz (by simp) h) (DpAll.ext0 e t)
  | _, _, .tup h t => .tup (e.tup Lsts.nil h) (DpAll.ext0 e t)
theorem DpAll.ext0 {K : PySem.W.Frag} {H H' : Hp} (e : Ext [] H H') : ∀ {vs : List V} {ds : List PyData}, DpAll K H vs ds → DpAll K H' vs ds
  | _, _, .nil => .nil
  | _, _, .cons h t => .cons (Dp.ext0 e h) (DpAll.ext0 e t)
end
theorem peW {X : Cx} {e : Expr} {t t' : TE} (h : PE X e t) (w : ∀ σ H Q, t' σ H Q → t σ H Q) : PE X e t' := ⟨fun pins s σ H Q I q => h.run pins s σ H Q I (w σ H Q q)⟩
theorem paW {X : Cx} {es : List Expr} {t t' : TA} (h : PA X es t) (w : ∀ σ H R, t' σ H R → t σ H R) : PA X es t' := ⟨fun pos pins s σ H R I q => h.run pos pins s σ H R I (w σ H R q)⟩
/-- data told by the slots -/
def tDat (K : PySem.W.Frag) (f : L2.St → Option PyData) : TE := fun σ H Q => ∃ d, f σ = some d ∧ ∀ v H', Ext [] H H' → Dp K H' v d → Q v H'
def tDats (K : PySem.W.Frag) (f : L2.St → Option (List PyData)) : TA := fun σ H R => ∃ ds, f σ = some ds ∧ ds.length ≤ 1000 ∧ ∀ vs H', Ext [] H H' → DpAll K H' vs ds → R vs H'
/-- a new list of data -/
def tDatL (K : PySem.W.Frag) (f : L2.St → Option (List PyData)) : TE := fun σ H Q => ∃ ds, f σ = some ds ∧ ds.length ≤ 1000 ∧ ∀ p vs H', H p = none → H' p = some (.lst vs) → Ext [] H H' → DpAll K H' vs ds → Q (.ref p) H'
def consO (f : L2.St → Option PyData) (g : L2.St → Option (List PyData)) : L2.St → Option (List PyData) := fun σ => match f σ, g σ with
  | some d, some ds => some (d :: ds)
  | _, _ => none
def slotI (i : Nat) (σ : L2.St) : Option PyData := match σ[i]? with
  | some (some (.int n)) => some (.int n)
  | _ => none
theorem slotI_some {i : Nat} {σ : L2.St} {d : PyData} (h : slotI i σ = some d) : ∃ n, σ[i]? = some (some (.int n)) ∧ d = .int n := by
  unfold slotI at h
  split at h
  · rename_i n e
    exact ⟨n, e, (Option.some.inj h).symm⟩
  · cases h
def tupO (g : L2.St → Option (List PyData)) (σ : L2.St) : Option PyData := match g σ with
  | some l => if l.length ≤ 1000 then some (.tuple l) else none
  | none => none
theorem tupO_some {g : L2.St → Option (List PyData)} {σ : L2.St} {d : PyData} (h : tupO g σ = some d) : ∃ l, g σ = some l ∧ l.length ≤ 1000 ∧ d = .tuple l := by
  unfold tupO at h
  split at h
  · rename_i l e
    split at h
    · rename_i hl
      exact ⟨l, e, hl, (Option.some.inj h).symm⟩
    · cases h
  · cases h
theorem consO_some {f : L2.St → Option PyData} {g : L2.St → Option (List PyData)} {σ : L2.St} {l : List PyData} (h : consO f g σ = some l) : ∃ d ds, f σ = some d ∧ g σ = some ds ∧ l = d :: ds := by
  unfold consO at h
  split at h
  · rename_i d ds e1 e2
    exact ⟨d, ds, e1, e2, (Option.some.inj h).symm⟩
  · cases h
section
variable {X : Cx} {K : PySem.W.Frag}
theorem pd_int {i : Int} {j : Nat} {pos : Pos} : PE X (.Constant (.int i) j pos) (tDat K fun _ => some (.int i)) := peW pe_int fun σ H Q ⟨_, e, q⟩ => by cases e; exact q _ H .refl (.int i)
theorem pd_neg {i : Int} {j : Nat} {pos pos' : Pos} : PE X (.UnaryOp .USub (.Constant (.int i) j pos) pos') (tDat K fun _ => some (.int (-i))) := peW (pe_un un_neg pe_int) fun σ H Q ⟨_, e, q⟩ => by cases e; exact ⟨i, rfl, q _ H .refl (.int _)⟩
theorem pd_bool {b : Bool} {j : Nat} {pos : Pos} : PE X (.Constant (.bool b) j pos) (tDat K fun _ => some (.bool b)) := peW pe_bl fun σ H Q ⟨_, e, q⟩ => by cases e; exact q _ H .refl (.bl b)
theorem pd_none {j : Nat} {pos : Pos} : PE X (.Constant .none j pos) (tDat K fun _ => some .none) := peW pe_non fun σ H Q ⟨_, e, q⟩ => by cases e; exact q _ H .refl .non
theorem pd_str {x : Str} {j : Nat} {pos : Pos} : PE X (.Constant (.str x) j pos) (tDat K fun _ => some (.str x)) := peW pe_str fun σ H Q ⟨_, e, q⟩ => by cases e; exact q _ H .refl (.str x)
/-- a slot that holds a number -/
theorem pd_var {e : Expr} {i : Nat} (h : PE X e (tVar i)) : PE X e (tDat K (slotI i)) := peW h fun σ H Q ⟨d, e, q⟩ => by
  obtain ⟨n, hs, rfl⟩ := slotI_some e
  exact ⟨_, hs, q _ H .refl (.int n)⟩
theorem pds_nil : PA X [] (tDats K fun _ => some []) := paW pa_nil fun σ H R ⟨_, e, _, q⟩ => by cases e; exact q [] H .refl .nil
theorem pds_cons {e : Expr} {es : List Expr} {f : L2.St → Option PyData} {g : L2.St → Option (List PyData)} (h : PE X e (tDat K f)) (r : PA X es (tDats K g)) (hs : starEach (e :: es) X.env = (false, eval e X.env) :: starEach es X.env := by rfl) :
    PA X (e :: es) (tDats K (consO f g)) := paW (pa_cons h r hs) fun σ H R ⟨ds, e, hl, q⟩ => by
  obtain ⟨d, l, hf, hg, rfl⟩ := consO_some e
  rw [List.length_cons] at hl
  exact ⟨d, hf, fun v H1 e1 h1 => ⟨l, hg, by omega, fun vs H2 e2 h2 => q (v :: vs) H2 (e1.trans e2) (.cons (Dp.ext0 e2 h1) h2)⟩⟩
theorem pd_tup {es : List Expr} {g : L2.St → Option (List PyData)} {c : Nat} {pos : Pos} (h : PA X es (tDats K g)) : PE X (.Tuple es c pos) (tDat K (tupO g)) :=
  peW (pe_tup h) fun σ H Q ⟨d, e, q⟩ => by
    obtain ⟨l, hg, hl, rfl⟩ := tupO_some e
    refine ⟨l, hg, hl, fun vs H' e1 h1 => ⟨by rw [dpAll_len h1]; exact Nat.le_of_lt (small1000 hl), fun p hp => ?_⟩⟩
    have e2 : Ext [] H' (upd H' p (.tup vs)) := .new hp
    exact q _ _ (e1.trans e2) (.tup (.of upd_same) (DpAll.ext0 e2 h1))
theorem pd_lst {es : List Expr} {g : L2.St → Option (List PyData)} {pos : Pos} (h : PA X es (tDats K g)) : PE X (.List es pos) (tDatL K g) :=
  peW (pe_lst h) fun σ H Q ⟨l, e, hl, q⟩ => ⟨l, e, hl, fun vs H' e1 h1 => ⟨by rw [dpAll_len h1]; exact Nat.le_of_lt (small1000 hl), fun p hp => by
    have e2 : Ext [] H' (upd H' p (.lst vs)) := .new hp
    exact q p vs _ (e1.free hp) upd_same (e1.trans e2) (DpAll.ext0 e2 h1)⟩⟩
end
end Nv
namespace Nv
open PySem PySem.Spec PyProof.Rows L2
theorem DpAll.append {K : PySem.W.Frag} {H : Hp} : ∀ {vs ws : List V} {ds es : List PyData}, DpAll K H vs ds → DpAll K H ws es → DpAll K H (vs ++ ws) (ds ++ es)
  | _, _, _, _, .nil, h => h
  | _, _, _, _, .cons r t, h => .cons r (DpAll.append t h)
theorem DpAll.rep {K : PySem.W.Frag} {H : Hp} {vs : List V} {ds : List PyData} (h : DpAll K H vs ds) : ∀ k : Nat, DpAll K H (List.replicate k vs).flatten (List.replicate k ds).flatten
  | 0 => .nil
  | k + 1 => by
    rw [List.replicate_succ, List.replicate_succ, List.flatten_cons, List.flatten_cons]
    exact DpAll.append h (DpAll.rep h k)
def repO (g : L2.St → Option (List PyData)) (k : Int) (σ : L2.St) : Option PyData := match g σ with
  | some l => if l ≠ [] ∧ l.length ≤ 1000 ∧ 2 ≤ k ∧ k ≤ 1000 then some (.tuple (List.replicate k.toNat l).flatten) else none
  | none => none
theorem pd_rep {X : Cx} {es : List Expr} {g : L2.St → Option (List PyData)} {c j : Nat} {k : Int} {pos p2 p3 : Pos} (h : PA X es (tDats X.K g)) : PE X (.BinOp (.Tuple es c pos) .Mult (.Constant (.int k) j p2) p3) (tDat X.K (repO g k)) :=
  peW (pe_op op_repT (pe_tup h) pe_int) fun σ H Q ⟨d, e, q⟩ => by
    unfold repO at e
    split at e
    · rename_i l hg
      split at e
      · rename_i hc
        obtain ⟨h1, h2, h3, h4⟩ := hc
        cases e
        refine ⟨l, hg, h2, fun vs H' e1 hd => ⟨by rw [dpAll_len hd]; exact Nat.le_of_lt (small1000 h2), fun p hp => ?_⟩⟩
        have e2 : Ext [] H' (upd H' p (.tup vs)) := .new hp
        refine ⟨p, k, vs, rfl, rfl, .of upd_same, fun z => h1 ?_, h3, h4, by rw [dpAll_len hd]; exact h2, fun t ht => ?_⟩
        · have := dpAll_len hd
          rw [z] at this
          exact List.eq_nil_of_length_eq_zero this.symm
        · have e3 := e2.put2 (o := .tup (List.replicate k.toNat vs).flatten) ht
          exact q _ _ (e1.trans e3) (.tup (.of upd_same) (DpAll.rep (DpAll.ext0 e3 hd) k.toNat))
      · cases e
    · cases e
end Nv
namespace Nv
open PySem PySem.Spec PyProof.Rows L2
mutual
def noL : PyData → Bool
  | .list _ => false
  | .tuple ds => noLs ds
  | _ => true
def noLs : List PyData → Bool
  | [] => true
  | d :: r => noL d && noLs r
end
mutual
theorem Dp.extL {K : PySem.W.Frag} {L : List Addr} {H H' : Hp} (e : Ext L H H') (l : Lsts L H) : ∀ {v : V} {d : PyData}, Dp K H v d → noL d = true → Dp K H' v d
  | _, _, .non, _ => .non
  | _, _, .bl b, _ => .bl b
  | _, _, .int i, _ => .int i
  | _, _, .str x, _ => .str x
  | _, _, .lst _ _, h => by simp [noL] at h
  | _, _, .tup h t, n => .tup (e.tup l h) (DpAll.extL e l t (by simpa [noL] using n))
theorem DpAll.extL {K : PySem.W.Frag} {L : List Addr} {H H' : Hp} (e : Ext L H H') (l : Lsts L H) : ∀ {vs : List V} {ds : List PyData}, DpAll K H vs ds → noLs ds = true → DpAll K H' vs ds
  | _, _, .nil, _ => .nil
  | _, _, .cons h t, n => by
    simp only [noLs, Bool.and_eq_true] at n
    exact .cons (Dp.extL e l h n.1) (DpAll.extL e l t n.2)
end
end Nv
set_option Elab.async false
set_option linter.all false
set_option maxRecDepth 100000
namespace Nv
open PySem PySem.Spec PyProof.Rows L2
section
variable {P : Program} {w : World} {K : PySem.W.Frag} {mg : Str → Option Value} {base : Heap}
/-! ### numbers and tuples: the program's checks -/
theorem sc_whole : FnScope ["thing"] ["thing"] (defScope s_whole) := ⟨rfl, rfl, rfl, by decide +kernel, rfl, by decide +kernel, by decide +kernel⟩
def sp_whole : Sp := fun vs H Q _ => ∃ i : Int, vs = [.int i] ∧ Q (.bl true) H
theorem ok_whole (T : Tx K mg) : FnOk P w K mg base CX0 1 T.whole.f T.whole.fd ["thing"] sp_whole := by
  refine T.whole.F.ok sc_whole (fun vs H Q E h => ?_) (fun cdv A outer s H vs Q E hr h => ?_)
  · obtain ⟨i, rfl, _⟩ := h; rfl
  · obtain ⟨i, rfl, q⟩ := h
    refine ⟨_, (pss_one (ps_ret (pe_and (pe_callB call_isi (by rfl) T.n_isinstance (by decide +kernel) (pa_cons (pv 0) (pa_cons (pe_bltn (v := .ty "int") (by rfl) T.n_int (by decide +kernel) rfl) pa_nil))) (pe_one (pe_not (pe_callB call_isi (by rfl) T.n_isinstance (by decide +kernel) (pa_cons (pv 0) (pa_cons (pe_bltn (v := .ty "bool") (by rfl) T.n_bool (by decide +kernel) rfl) pa_nil)))))))), ?_⟩
    refine ⟨_, rfl, _, _, _, _, _, rfl, .ty _, .base (.int i), kit_ty (b := "int") (r := true) (by decide +kernel), true, rfl, iteT ⟨_, rfl, _, _, _, _, _, rfl, .ty _, .base (.int i), kit_ty (b := "bool") (r := false) (by decide +kernel), false, rfl, q⟩⟩
theorem sc_whole_within : FnScope ["thing", "low", "high"] ["thing", "low", "high"] (defScope s_whole_within) := ⟨rfl, rfl, rfl, by decide +kernel, rfl, by decide +kernel, by decide +kernel⟩
def sp_whole_within : Sp := fun vs H Q _ => ∃ i a b : Int, vs = [.int i, .int a, .int b] ∧ Q (.bl (decide (a ≤ i ∧ i ≤ b))) H
theorem ok_whole_within (T : Tx K mg) : FnOk P w K mg base CX0 2 T.whole_within.f T.whole_within.fd ["thing", "low", "high"] sp_whole_within := by
  refine T.whole_within.F.ok sc_whole_within (fun vs H Q E h => ?_) (fun cdv A outer s H vs Q E hr h => ?_)
  · obtain ⟨i, a, b, rfl, _⟩ := h; rfl
  · obtain ⟨i, a, b, rfl, q⟩ := h
    refine ⟨_, (pss_one (ps_ret (pe_and (pe_call (ok_whole T) (hr.mono (by decide)) (by rfl) T.whole.g T.whole.F.kp T.whole.b .nil pass0 (pa_cons (pv 0) pa_nil)) (pe_one (pe_chain op_le op_le (pv 1) (pv 0) (pv 2)))))), ?_⟩
    refine ⟨_, rfl, i, rfl, true, rfl, iteT ⟨_, rfl, _, rfl, _, _, rfl, rfl, _, rfl, ?_⟩⟩
    by_cases h1 : a ≤ i
    · rw [decide_eq_true h1]
      refine iteT ⟨_, rfl, _, _, rfl, rfl, ?_⟩
      have e : decide (a ≤ i ∧ i ≤ b) = decide (i ≤ b) := by simp [h1]
      rw [e] at q
      exact q
    · rw [decide_eq_false h1]
      have e : decide (a ≤ i ∧ i ≤ b) = false := by simp [h1]
      rw [e] at q
      exact iteF q
theorem sc_tuple_within : FnScope ["thing", "low", "high"] ["thing", "low", "high"] (defScope s_tuple_within) := ⟨rfl, rfl, rfl, by decide +kernel, rfl, by decide +kernel, by decide +kernel⟩
def sp_tuple_within (K : PySem.W.Frag) : Sp := fun vs H Q _ => ∃ (t : Addr) (xs : List V) (a b : Int), vs = [.ref t, .int a, .int b] ∧ SqT K H t xs ∧ TyX K H (.ref t) (.type "tuple") ∧ Q (.bl (decide (a ≤ (xs.length : Int) ∧ (xs.length : Int) ≤ b))) H
theorem ok_tuple_within (T : Tx K mg) : FnOk P w K mg base CX0 1 T.tuple_within.f T.tuple_within.fd ["thing", "low", "high"] (sp_tuple_within K) := by
  refine T.tuple_within.F.ok sc_tuple_within (fun vs H Q E h => ?_) (fun cdv A outer s H vs Q E hr h => ?_)
  · obtain ⟨t, xs, a, b, rfl, _⟩ := h; rfl
  · obtain ⟨t, xs, a, b, rfl, ht, ty, q⟩ := h
    refine ⟨_, (pss_one (ps_ret (pe_and (pe_callB call_isi (by rfl) T.n_isinstance (by decide +kernel) (pa_cons (pv 0) (pa_cons (pe_bltn (v := .ty "tuple") (by rfl) T.n_tuple (by decide +kernel) rfl) pa_nil))) (pe_one (pe_chain op_le op_le (pv 1) (pe_callB call_len_seq (by rfl) T.n_len PySem.boot_len (pa_cons (pv 0) pa_nil)) (pv 2)))))), ?_⟩
    refine ⟨_, rfl, _, _, _, _, _, rfl, .ty _, ty, kit_ty (b := "tuple") (r := true) (by decide +kernel), true, rfl, iteT ⟨_, rfl, _, rfl, t, xs, rfl, .inr ht, _, _, rfl, rfl, _, rfl, ?_⟩⟩
    by_cases h1 : a ≤ (xs.length : Int)
    · rw [decide_eq_true h1]
      refine iteT ⟨_, rfl, _, _, rfl, rfl, ?_⟩
      have e : decide (a ≤ (xs.length : Int) ∧ (xs.length : Int) ≤ b) = decide ((xs.length : Int) ≤ b) := by simp [h1]
      rw [e] at q
      exact q
    · rw [decide_eq_false h1]
      have e : decide (a ≤ (xs.length : Int) ∧ (xs.length : Int) ≤ b) = false := by simp [h1]
      rw [e] at q
      exact iteF q
theorem SqT.ty {K : PySem.W.Frag} {H : Hp} {a : Addr} {xs : List V} (h : SqT K H a xs) : TyX K H (.ref a) (.type "tuple") := by
  rcases h with (h | ⟨o, h⟩) | ⟨o, its, n, e, c, _⟩
  · exact .base (.tup h)
  · exact .fTuple h
  · exact .kTuple e c
/-! ### the law's draws -/
/-- the pool at p, its list at l -/
def PoolAt (H : Hp) (p l : Addr) : Prop := p ≠ l ∧ ∃ (x y : Int) (ns : List Int), H p = some (.lst [.int x, .int y, .ref l]) ∧ H l = some (.lst (ns.map V.int)) ∧ 0 ≤ x ∧ 0 ≤ y ∧ y < 4294967296 ∧ ns.length ≤ 63
theorem PoolAt.lsts {H : Hp} {p l : Addr} (h : PoolAt H p l) : Lsts [p, l] H := by
  obtain ⟨_, x, y, ns, h1, h2, _⟩ := h
  exact two_lsts h1 h2
theorem PoolAt.ext {H H' : Hp} {p l : Addr} {L : List Addr} (h : PoolAt H p l) (e : Ext L H H') (h1 : p ∉ L) (h2 : l ∉ L) : PoolAt H' p l := by
  obtain ⟨n, x, y, ns, a, b, r⟩ := h
  exact ⟨n, x, y, ns, e _ _ h1 a, e _ _ h2 b, r⟩
theorem PoolAt.ext0 {H H' : Hp} {p l : Addr} (h : PoolAt H p l) (e : Ext [] H H') : PoolAt H' p l := h.ext e (by simp) (by simp)
theorem sc_law_pool : FnScope ["script", "first", "size"] ["script"] (defScope s_law_pool) := ⟨rfl, rfl, rfl, by decide +kernel, rfl, by decide +kernel, by decide +kernel⟩
def sp_law_pool (K : PySem.W.Frag) : Sp := fun vs H Q _ => ∃ (a : Addr) (ns : List Int), vs = [.ref a] ∧ SqL K H a (ns.map V.int) ∧ ns.length ≤ 63 ∧ ∀ (p l : Addr) (H' : Hp), H p = none → H l = none → PoolAt H' p l → Ext [] H H' → Q (.ref p) H'
theorem ok_law_pool (T : Tx K mg) : FnOk P w K mg base CX0 1 T.law_pool.f T.law_pool.fd ["script"] (sp_law_pool K) := by
  refine T.law_pool.F.ok sc_law_pool (fun vs H Q E h => ?_) (fun cdv A outer s H vs Q E hr h => ?_)
  · obtain ⟨a, ns, rfl, _⟩ := h; rfl
  · obtain ⟨a, ns, rfl, hS, hl, q⟩ := h
    refine ⟨_, (C8.pss_cut (ps_set (i := 1) sc_law_pool.nd rfl (.inl rfl) (pe_mid (pe_ifExp (pt_cmpR op_gt (pe_callB call_len_seq (by rfl) T.n_len PySem.boot_len (pa_cons (pv 0) pa_nil)) pe_int (nomark _)) (pe_callTy call_int1 (by rfl) T.n_int (by decide +kernel) (pa_cons (pe_ix ix_list (pv 0) pe_int (fun _ _ => rfl)) pa_nil)) pe_int)))
      (C8.pss_cut (ps_set (i := 2) sc_law_pool.nd rfl (.inl rfl) (pe_mid (pe_ifExp (pt_cmpR op_ge (pv 1) pe_int (nomark _)) (pe_op op_mul pe_int (pv 1)) (pe_op op_sub (pe_un un_neg pe_int) (pe_op op_mul pe_int (pv 1))))))
      (pss_one (ps_ret (pe_lst (pa_cons (pe_mid (pe_ifExp (pt_cmpR op_ge (pv 2) (pe_op op_pow pe_int pe_int) (nomark _)) (pv 2) pe_int)) (pa_cons (pe_op op_add (pe_op op_mod (pe_callTy call_int1 (by rfl) T.n_int (by decide +kernel) (pa_cons (pe_op op_add (pe_op op_mul (pv 2) pe_int) pe_int) pa_nil)) pe_int) pe_int) (pa_cons (pe_callTy call_list_of (by rfl) T.n_list (by decide +kernel) (pa_cons (pe_slice sl_list (pv 0) (po_some pe_int) po_none) pa_nil)) pa_nil)))))))), ?_⟩
    refine ⟨fun σ' H' => H' = H ∧ ∃ i : Int, σ' = [some (.ref a), some (.int i), none], ?_, ?_⟩
    · refine ⟨fun v H' => H' = H ∧ ∃ i : Int, v = .int i, ?_, ?_⟩
      · refine ⟨_, rfl, a, _, rfl, .inl hS, _, _, rfl, rfl, _, rfl, ite2 (fun e => ?_) (fun e => ?_)⟩
        · cases ns with
          | nil => simp at e
          | cons n r => exact ⟨_, rfl, _, _, _, _, rfl, rfl, hS, atI_nat (j := 0) rfl, .inl ⟨_, rfl, rfl, _, rfl⟩⟩
        · exact ⟨rfl, _, rfl⟩
      · rintro v H' ⟨rfl, i, rfl⟩
        exact ⟨rfl, i, rfl⟩
    · rintro σ' H' ⟨rfl, i, rfl⟩
      refine ⟨fun σ' H1 => H1 = H' ∧ ∃ z : Int, 0 ≤ z ∧ σ' = [some (.ref a), some (.int i), some (.int z)], ?_, ?_⟩
      · refine ⟨fun v H1 => H1 = H' ∧ ∃ z : Int, 0 ≤ z ∧ v = .int z, ?_, ?_⟩
        · refine ⟨_, rfl, _, _, rfl, rfl, _, rfl, ite2 (fun e => ?_) (fun e => ?_)⟩
          · have e := of_decide_eq_true e
            exact ⟨_, rfl, _, _, rfl, rfl, .inl ⟨by decide, by decide⟩, rfl, _, by omega, rfl⟩
          · have e : ¬ (0 ≤ i) := fun z => e (decide_eq_true z)
            exact ⟨_, rfl, _, rfl, _, _, rfl, rfl, .inl ⟨by decide, by decide⟩, _, _, rfl, rfl, rfl, _, by omega, rfl⟩
        · rintro v H1 ⟨rfl, z, hz, rfl⟩
          exact ⟨rfl, z, hz, rfl⟩
      · rintro σ' H1 ⟨rfl, z, hz, rfl⟩
        have ym : 0 ≤ (z * 48271 + 1009) % 2147483629 + 3 ∧ (z * 48271 + 1009) % 2147483629 + 3 < 4294967296 := by omega
        refine ⟨fun v H' => H' = H1 ∧ ∃ x : Int, 0 ≤ x ∧ v = .int x, ?_, ?_⟩
        · refine ⟨_, rfl, _, _, rfl, rfl, ⟨by decide, by decide, by decide⟩, _, _, rfl, rfl, _, rfl, ite2 (fun e => ?_) (fun e => ?_)⟩
          · exact ⟨_, rfl, rfl, z, hz, rfl⟩
          · exact ⟨rfl, 0, by omega, rfl⟩
        · rintro v H' ⟨rfl, x, hx, rfl⟩
          refine ⟨_, rfl, _, _, rfl, rfl, .inr ⟨by decide, by decide⟩, _, _, rfl, rfl, .inl ⟨_, rfl, _, _, rfl, rfl, (by show (0:Int) < 2147483629; decide), _, _, rfl, rfl, ?_⟩⟩
          refine ⟨.ref a, rfl, 1, rfl, a, _, rfl, hS, fun c hc => ⟨c, _, rfl, .inl (.of upd_same), fun l hl0 => ⟨(by show 3 ≤ sizeLine; decide), fun p hp => ?_⟩⟩⟩
          have s1 : Ext [] H' (upd H' c (.lst (cutV (ns.map V.int) (some 1) none))) := .new hc
          have s2 := s1.trans (Ext.new (L := []) (o := .lst (cutV (ns.map V.int) (some 1) none)) hl0)
          have pl : p ≠ l := fun e => by rw [e, upd_same] at hp; cases hp
          have cut : ∃ ms : List Int, cutV (ns.map V.int) (some 1) none = ms.map V.int ∧ ms.length ≤ 63 := by
            unfold cutV
            exact ⟨(ns.drop _).take _, by rw [List.map_take, List.map_drop], by rw [List.length_take, List.length_drop]; omega⟩
          obtain ⟨ms, em, hm⟩ := cut
          refine q p l _ (s2.free hp) (s1.free hl0) ⟨pl, x, _, ms, upd_same, ?_, hx, ym.1, ym.2, hm⟩ (s2.trans (.new hp))
          rw [upd_ne pl.symm, upd_same, em]
theorem sc_law_draw : FnScope ["pool", "many", "cell", "size", "found"] ["pool", "many"] (defScope s_law_draw) := ⟨rfl, rfl, rfl, by decide +kernel, rfl, by decide +kernel, by decide +kernel⟩
def sp_law_draw : Sp := fun vs H Q _ => ∃ (p l : Addr) (m : Int), vs = [.ref p, .int m] ∧ PoolAt H p l ∧ 0 < m ∧ m < 1073741824 ∧ ∀ (r : Int) (H' : Hp), 0 ≤ r → r < m → PoolAt H' p l → Ext [p, l] H H' → Q (.int r) H'
theorem ok_law_draw (T : Tx K mg) : FnOk P w K mg base CX0 1 T.law_draw.f T.law_draw.fd ["pool", "many"] sp_law_draw := by
  refine T.law_draw.F.ok sc_law_draw (fun vs H Q E h => ?_) (fun cdv A outer s H vs Q E hr h => ?_)
  · obtain ⟨p, l, m, rfl, _⟩ := h; rfl
  · obtain ⟨p, l, m, rfl, hP, hm, hm2, q⟩ := h
    refine ⟨_, (C8.pss_cut (ps_if (PW.pt (pw_and (pt_cmpR op_eq (pe_ix ix_list (pv 0) pe_int (fun _ _ => rfl)) pe_int (nomark _)) (pw_and1 (pt_cmpR (op_neD (hr.units)) (pe_ix ix_list (pv 0) pe_int (fun _ _ => rfl)) (pe_lst pa_nil) (nomark _)))))
        (pss_cons (ps_set (i := 2) sc_law_draw.nd rfl (.inl rfl) (pe_callTy call_int1 (by rfl) T.n_int (by decide +kernel) (pa_cons (pe_bm PySem.F.plainAttrs_list PySem.F.slot_list_pop PySem.F.type_list_pop mt_popAt (pe_ix ix_list (pv 0) pe_int (fun _ _ => rfl)) (pa_cons pe_int pa_nil)) pa_nil)))
        (pss_cons (ps_set (i := 3) sc_law_draw.nd rfl (.inl rfl) (pe_mid (pe_ifExp (pt_cmpR op_ge (pv 2) pe_int (nomark _)) (pe_op op_mul pe_int (pv 2)) (pe_op op_sub (pe_un un_neg pe_int) (pe_op op_mul pe_int (pv 2))))))
        (pss_cons (ps_asg (pe_mid (pe_ifExp (pt_cmpR op_ge (pv 3) (pe_op op_pow pe_int pe_int) (nomark _)) (pv 3) pe_int)) (pg_sub (pv 0) pe_int set_list))
        (pss_one (ps_asg (pe_op op_add (pe_op op_mod (pe_callTy call_int1 (by rfl) T.n_int (by decide +kernel) (pa_cons (pe_op op_add (pe_ix ix_list (pv 0) pe_int (fun _ _ => rfl)) (pe_op op_mul (pv 3) pe_int)) pa_nil)) pe_int) pe_int) (pg_sub (pv 0) pe_int set_list))))))
        pss_nil)
      (pss_cons (ps_if (pt_cmpR op_gt (pe_ix ix_list (pv 0) pe_int (fun _ _ => rfl)) pe_int (nomark _))
        (pss_cons (ps_set (i := 4) sc_law_draw.nd rfl (.inl rfl) (pe_op op_mod (pe_callTy call_int1 (by rfl) T.n_int (by decide +kernel) (pa_cons (pe_ix ix_list (pv 0) pe_int (fun _ _ => rfl)) pa_nil)) (pv 1)))
        (pss_cons (ps_asg (pe_op op_fdiv (pe_ix ix_list (pv 0) pe_int (fun _ _ => rfl)) (pv 1)) (pg_sub (pv 0) pe_int set_list))
        (pss_one (ps_ret (pv 4)))))
        pss_nil)
      (pss_cons (ps_asg (pe_op op_mod (pe_callTy call_int1 (by rfl) T.n_int (by decide +kernel) (pa_cons (pe_op op_add (pe_op op_mul (pe_ix ix_list (pv 0) pe_int (fun _ _ => rfl)) pe_int) pe_int) pa_nil)) pe_int) (pg_sub (pv 0) pe_int set_list))
      (pss_one (ps_ret (pe_op op_mod (pe_op op_fdiv (pe_op op_mod (pe_callTy call_int1 (by rfl) T.n_int (by decide +kernel) (pa_cons (pe_op op_mul (pe_ix ix_list (pv 0) pe_int (fun _ _ => rfl)) (pe_ix ix_list (pv 0) pe_int (fun _ _ => rfl))) pa_nil)) pe_int) pe_int) (pv 1))))))), ?_⟩
    obtain ⟨npl, x, y, ns, hp, hl, hx, hy, hy2, hn⟩ := id hP
    refine ⟨fun σ' H' => PoolAt H' p l ∧ Ext [p, l] H H' ∧ ∃ a b c, σ' = [some (.ref p), some (.int m), a, b, c], ?_, ?_⟩
    · refine ⟨_, rfl, _, _, _, _, rfl, rfl, .of hp, atI_nat (j := 0) rfl, rfl, _, rfl, ite2 (fun e => ?_) (fun e => ?_)⟩
      · refine ⟨_, rfl, _, _, _, _, rfl, rfl, .of hp, atI_nat (j := 2) rfl, by decide, fun c hc => ?_⟩
        have s1 : Ext [] H (upd H c (.lst [])) := .new hc
        refine ⟨_, _, .lst (.of (s1.at hl (by simp))) (dp_ints ns), .lst (.of upd_same) .nil, shaped_ints ns, by decide, _, rfl, ?_⟩
        rw [eqv_nil]
        cases ns with
        | nil =>
          rw [decide_eq_true rfl]
          exact iteF ⟨hP.ext0 s1, s1.weak, _, _, _, rfl⟩
        | cons n r =>
          rw [decide_eq_false (by simp)]
          refine iteT ?_
          have hp1 := s1.at hp (by simp)
          have hl1 := s1.at hl (by simp)
          -- cell
          refine ⟨_, rfl, _, _, _, _, rfl, rfl, .of hp1, atI_nat (j := 2) rfl, .inl ⟨rfl, _, .of hl1⟩, l, _, 0, 0, .int n, rfl, rfl, hl1, by decide, by decide, (by simp [seqIndex?]), rfl, .inl ⟨_, rfl, ?_⟩⟩
          have hp2 : upd (upd H c (.lst [])) l (.lst (((n :: r).map V.int).eraseIdx 0)) p = some (.lst [.int x, .int y, .ref l]) := by rw [upd_ne npl]; exact hp1
          have hl2 : upd (upd H c (.lst [])) l (.lst (((n :: r).map V.int).eraseIdx 0)) l = some (.lst (r.map V.int)) := upd_same
          have s2 : Ext [p, l] H (upd (upd H c (.lst [])) l (.lst (((n :: r).map V.int).eraseIdx 0))) := s1.weak.trans (.wr (by simp))
          generalize upd (upd H c (.lst [])) l (.lst (((n :: r).map V.int).eraseIdx 0)) = H2 at hp2 hl2 s2
          -- size
          refine ⟨fun v H1 => H1 = H2 ∧ ∃ z : Int, 0 ≤ z ∧ v = .int z, ?_, ?_⟩
          · refine ⟨_, rfl, _, _, rfl, rfl, _, rfl, ite2 (fun e => ?_) (fun e => ?_)⟩
            · have e := of_decide_eq_true e
              exact ⟨_, rfl, _, _, rfl, rfl, .inl ⟨by decide, by decide⟩, rfl, _, by omega, rfl⟩
            · have e : ¬ (0 ≤ n) := fun z => e (decide_eq_true z)
              exact ⟨_, rfl, _, rfl, _, _, rfl, rfl, .inl ⟨by decide, by decide⟩, _, _, rfl, rfl, rfl, _, by omega, rfl⟩
          · rintro v H1 ⟨rfl, z, hz, rfl⟩
            -- pool[0]
            refine ⟨fun v H' => H' = H1 ∧ ∃ x : Int, 0 ≤ x ∧ v = .int x, ?_, ?_⟩
            · refine ⟨_, rfl, _, _, rfl, rfl, ⟨by decide, by decide, by decide⟩, _, _, rfl, rfl, _, rfl, ite2 (fun e => ?_) (fun e => ?_)⟩
              · exact ⟨_, rfl, rfl, z, hz, rfl⟩
              · exact ⟨rfl, 0, by omega, rfl⟩
            · rintro v H' ⟨rfl, x2, hx2, rfl⟩
              refine ⟨_, rfl, p, _, 0, 0, rfl, rfl, hp2, rfl, ?_⟩
              -- pool[1]
              refine ⟨_, rfl, _, _, _, _, rfl, rfl, .of upd_same, atI_nat (j := 1) rfl, _, rfl, _, _, rfl, rfl, .inr ⟨by decide, by decide⟩, _, _, rfl, rfl, .inl ⟨_, rfl, _, _, rfl, rfl, (by show (0:Int) < 2147483629; decide), _, _, rfl, rfl, ?_⟩⟩
              refine ⟨_, rfl, p, _, 1, 1, rfl, rfl, upd_same, rfl, ?_⟩
              rw [upd_upd]
              refine ⟨⟨npl, x2, _, r, upd_same, by rw [upd_ne npl.symm]; exact hl2, hx2, ?_, ?_, ?_⟩, s2.trans (.wr (by simp)), _, _, _, rfl⟩
              · omega
              · omega
              · simp at hn; omega
      · exact iteF ⟨hP, .refl, _, _, _, rfl⟩
    · rintro σ' H1 ⟨⟨npl, x, y, ns, hp, hl, hx, hy, hy2, hn⟩, e1, a, b, c, rfl⟩
      refine ⟨_, rfl, _, _, _, _, rfl, rfl, .of hp, atI_nat (j := 0) rfl, _, _, rfl, rfl, _, rfl, ite2 (fun e => ?_) (fun e => ?_)⟩
      · refine ⟨_, rfl, _, _, _, _, rfl, rfl, .of hp, atI_nat (j := 0) rfl, .inl ⟨_, rfl, _, rfl, _, _, rfl, rfl, hm, ?_⟩⟩
        refine ⟨_, rfl, _, _, _, _, rfl, rfl, .of hp, atI_nat (j := 0) rfl, _, rfl, _, _, rfl, rfl, ⟨hm, hm2⟩, _, rfl, p, _, 0, 0, rfl, rfl, hp, rfl, ?_⟩
        refine ⟨_, rfl, q _ _ (Int.emod_nonneg _ (by omega)) (Int.emod_lt_of_pos _ hm) ⟨npl, x / m, y, ns, upd_same, by rw [upd_ne npl.symm]; exact hl, Int.ediv_nonneg hx (by omega), hy, hy2, hn⟩ (e1.trans (.wr (by simp)))⟩
      · refine ⟨_, rfl, _, _, _, _, rfl, rfl, .of hp, atI_nat (j := 1) rfl, _, _, rfl, rfl, .inr ⟨by decide, by decide⟩, _, _, rfl, rfl, .inl ⟨_, rfl, _, _, rfl, rfl, (by show (0:Int) < 2147483647; decide), ?_⟩⟩
        refine ⟨_, rfl, p, _, 1, 1, rfl, rfl, hp, rfl, ?_⟩
        have yb : 0 ≤ (y * 48271 + 11) % 2147483647 ∧ (y * 48271 + 11) % 2147483647 < 2147483647 := by omega
        refine ⟨_, rfl, _, _, _, _, rfl, rfl, .of upd_same, atI_nat (j := 1) rfl, _, rfl, _, _, _, _, rfl, rfl, .of upd_same, atI_nat (j := 1) rfl, _, _, rfl, rfl, .inl ⟨by omega, by omega⟩, .inl ⟨_, rfl, _, _, rfl, rfl, (by show (0:Int) < 2147483629; decide), _, _, rfl, rfl, ⟨by decide, by decide⟩, _, rfl, _, _, rfl, rfl, hm, ?_⟩⟩
        exact q _ _ (Int.emod_nonneg _ (by omega)) (Int.emod_lt_of_pos _ hm) ⟨npl, x, _, ns, upd_same, by rw [upd_ne npl.symm]; exact hl, hx, yb.1, by omega, hn⟩ (e1.trans (.wr (by simp)))
theorem sc_law_pick : FnScope ["pool", "things"] ["pool", "things"] (defScope s_law_pick) := ⟨rfl, rfl, rfl, by decide +kernel, rfl, by decide +kernel, by decide +kernel⟩
def sp_law_pick (K : PySem.W.Frag) : Sp := fun vs H Q _ => ∃ (p l t : Addr) (xs : List V), vs = [.ref p, .ref t] ∧ PoolAt H p l ∧ SqL K H t xs ∧ t ≠ p ∧ t ≠ l ∧ 0 < xs.length ∧ xs.length < 1000 ∧ ∀ (i : Nat) (v : V) (H' : Hp), xs[i]? = some v → PoolAt H' p l → Ext [p, l] H H' → Q v H'
theorem ok_law_pick (T : Tx K mg) : FnOk P w K mg base CX0 2 T.law_pick.f T.law_pick.fd ["pool", "things"] (sp_law_pick K) := by
  refine T.law_pick.F.ok sc_law_pick (fun vs H Q E h => ?_) (fun cdv A outer s H vs Q E hr h => ?_)
  · obtain ⟨p, l, t, xs, rfl, _⟩ := h; rfl
  · obtain ⟨p, l, t, xs, rfl, hP, hS, n1, n2, h0, h1, q⟩ := h
    refine ⟨_, (pss_one (ps_ret (pe_ix ix_list (pv 1) (pe_call (ok_law_draw T) (hr.mono (by decide)) (by rfl) T.law_draw.g T.law_draw.F.kp T.law_draw.b .nil pass0 (pa_cons (pv 0) (pa_cons (pe_callB call_len_seq (by rfl) T.n_len PySem.boot_len (pa_cons (pv 1) pa_nil)) pa_nil))) (fun _ _ => rfl)))), ?_⟩
    refine ⟨_, rfl, _, rfl, _, rfl, t, xs, rfl, .inl hS, p, l, _, rfl, hP, by omega, by omega, fun r H' r0 r1 hP' e => ?_⟩
    obtain ⟨i, rfl⟩ : ∃ i : Nat, r = (i : Int) := ⟨r.toNat, by omega⟩
    have hi : i < xs.length := by omega
    exact ⟨t, xs, _, xs[i], rfl, rfl, e.frz (by simp [n1, n2]) hS, atI_nat (List.getElem?_eq_getElem hi), q i _ _ (List.getElem?_eq_getElem hi) hP' e⟩
end
end Nv
set_option Elab.async false
set_option linter.all false
set_option maxRecDepth 100000
namespace Nv
open PySem PySem.Spec PyProof.Rows L2
section
variable {P : Program} {w : World} {K : PySem.W.Frag} {mg : Str → Option Value} {base : Heap}
/-! ### the law's books: meeting -/
theorem sc_law_book_meeting : FnScope ["moves", "found", "at", "message", "to", "state"] ["moves"] (defScope s_law_book_meeting) := ⟨rfl, rfl, rfl, by decide +kernel, rfl, by decide +kernel, by decide +kernel⟩
def sp_law_book_meeting (K : PySem.W.Frag) : Sp := fun vs H Q _ => ∃ (m : V) (b : Book), vs = [m] ∧ LbV K H m b ∧ 1 ≤ b.length ∧ b.length ≤ 1000 ∧ (∀ s, (mvs b s).length ≤ 1000 ∧ ∀ p ∈ mvs b s, p.2 < b.length) ∧ ∀ (F : List Nat) (v : V) (H' : Hp), Met b F → BkV K H' v (rename b F) → Ext [] H H' → Q v H'
theorem ok_law_book_meeting (T : Tx K mg) : FnOk P w K mg base CX0 1 T.law_book_meeting.f T.law_book_meeting.fd ["moves"] (sp_law_book_meeting K) := by
  refine T.law_book_meeting.F.ok sc_law_book_meeting (fun vs H Q E h => ?_) (fun cdv A outer s H vs Q E hr h => ?_)
  · obtain ⟨m, b, rfl, _⟩ := h; rfl
  · obtain ⟨_, b, rfl, ⟨m, ls, rfl, hm, hls⟩, h1, h2, hto, q⟩ := h
    have llen : ls.length = b.length := Paired.len hls
    refine ⟨_, (pss_cons (ps_set (i := 1) sc_law_book_meeting.nd rfl (.inr rfl) (pe_lst (pa_cons pe_int pa_nil)))
      (C8.pss_cut (ps_for PassesOwn.never rfl (pi_range1 (by rfl) T.n_range (pa_cons (pe_callB call_len_seq (by rfl) T.n_len PySem.boot_len (pa_cons (pv 0) pa_nil)) pa_nil)) (pg_name (i := 2) sc_law_book_meeting.nd rfl (.inl rfl))
        (pss_cons (ps_if (pt_cmpR op_eq (pv 2) (pe_callB call_len_seq (by rfl) T.n_len PySem.boot_len (pa_cons (pv 1) pa_nil)) (nomark _))
          (pss_one ps_break)
          pss_nil)
        (pss_one (ps_for PassesOwn.never rfl (pi_list (pe_ix ix_list (pv 0) (pe_ix ix_list (pv 1) (pv 2) (fun _ _ => rfl)) (fun _ _ => rfl))) (pg_tup rfl (pgs_cons (pg_name (i := 3) sc_law_book_meeting.nd rfl (.inl rfl)) (pgs_cons (pg_name (i := 4) sc_law_book_meeting.nd rfl (.inl rfl)) pgs_nil)))
          (pss_one (ps_if (pt_cmpR op_notIn_seq (pv 4) (pv 1) (by rfl))
            (pss_one (ps_expr (pe_bm PySem.F.plainAttrs_list PySem.F.slot_list_append PySem.F.type_list_append mt_append (pv 1) (pa_cons (pv 4) pa_nil))))
            pss_nil))))))
      (pss_one (ps_ret (pe_callTy call_tupZ (by rfl) T.n_tuple (by decide +kernel) (pa_cons (pe_lc (own := [("state", 5)]) rfl sc_law_book_meeting.nd (pi_list (pv 1)) (blkOk_by (own := [("state", 5)]) (N := ["moves", "found", "at", "message", "to", "state"]) (sc := defScope s_law_book_meeting) (by decide +kernel)) (fun _ _ _ _ _ => (pg_name (i := 5) sc_law_book_meeting.nd rfl (.inl rfl))) (fun _ _ _ _ _ => pts_nil) (fun _ _ _ _ _ => (pe_callTy (call_tupZK K) (by rfl) T.n_tuple (by decide +kernel) (pa_cons (pe_lc (own := [("message", 3), ("to", 4)]) rfl sc_law_book_meeting.nd (pi_listK K (pe_ix (ix_listK K) (pv 0) (pv 5) (fun _ _ => rfl))) (blkOk_by (own := [("message", 3), ("to", 4)]) (by kernel_rfl)) (fun _ _ _ _ _ => (pg_tupK (n := 2) K rfl (pgs_cons (pg_name (i := 3) sc_law_book_meeting.nd rfl (.inl rfl)) (pgs_cons (pg_name (i := 4) sc_law_book_meeting.nd rfl (.inl rfl)) pgs_nil)))) (fun _ _ _ _ _ => pts_nil) (fun _ _ _ _ _ => (pe_tup (pa_cons (pv 3) (pa_cons (pe_bmK K PySem.F.plainAttrs_list PySem.F.slot_list_index PySem.F.type_list_index (mt_indexK K) (pv 1) (pa_cons (pv 4) pa_nil)) pa_nil))))) pa_nil)))) pa_nil)))))), ?_⟩
    -- found = [0]
    refine ⟨(by show 1 ≤ sizeLine; decide), fun f hf => ?_⟩
    have e0 : Ext [] H (upd H f (.lst [.int 0])) := .new hf
    have mf : m ≠ f := ne_of_none hm hf
    refine ⟨fun σ H' => ∃ (F : List Nat) (y2 y3 y4 : Option V), σ = [some (.ref m), some (.ref f), y2, y3, y4, none] ∧ Met b F ∧ Ext [] H H' ∧ H' f = some (.lst (F.map nV)), ?_, ?_⟩
    · refine ⟨_, rfl, m, ls, rfl, .inl (.of (e0.at hm (by simp))), _, rfl, by omega, by omega, for_range (lo := 0) (n := _) (fun i σ H' => ∃ (F : List Nat) (y2 y3 y4 : Option V), σ = [some (.ref m), some (.ref f), y2, y3, y4, none] ∧ MetI b F i ∧ Ext [] H H' ∧ H' f = some (.lst (F.map nV))) ⟨[0], _, _, _, rfl, .first h1, e0, upd_same⟩ ?_ ?_⟩
      · rintro i σ H' hi ⟨F, y2, y3, y4, rfl, mi, e, hF⟩
        simp only [Int.zero_add]
        have hin : i < b.length := by
          have : ((ls.length : Int)).toNat = ls.length := Int.toNat_natCast _
          omega
        -- if at == len(found)
        refine ⟨_, rfl, _, rfl, f, _, rfl, .inl (.of hF), rfl, _, rfl, ?_⟩
        rw [dec_int]
        refine ite2 (fun z => ?_) (fun z => ?_)
        · have z := of_decide_eq_true z
          rw [List.length_map] at z
          exact ⟨F, _, _, _, rfl, mi.met (.inl (by omega)), e, hF⟩
        · have z : ¬ ((i : Int) = ((F.map nV).length : Int)) := fun y => z (decide_eq_true y)
          rw [List.length_map] at z
          have hiF : i < F.length := by have := mi.le; omega
          have hs : F[i]? = some F[i] := List.getElem?_eq_getElem hiF
          generalize F[i] = x at hs
          have hx : x < b.length := mi.lt x (List.mem_of_getElem? hs)
          -- for message, to in moves[found[at]]
          obtain ⟨u, hu, hst⟩ := Paired.get hls (mvs_lt hx)
          obtain ⟨a, ps, rfl, ha, hps⟩ := hst
          refine ⟨_, rfl, _, rfl, _, rfl, f, _, _, _, rfl, rfl, .of hF, atI_nat (at_map hs), m, _, _, _, rfl, rfl, .of (e.at hm (by simp)), atI_nat hu, a, rfl, ⟨_, .of (e.at ha (by simp))⟩, ?_⟩
          have plen : ps.length = (mvs b x).length := Paired.len hps
          refine for_list (K := K) (a := a) (xs := ps.map V.ref) (fun k σ H' => ∃ (F : List Nat) (y3 y4 : Option V), σ = [some (.ref m), some (.ref f), some (.int i), y3, y4, none] ∧ MetW b F i x k ∧ Ext [] H H' ∧ H' f = some (.lst (F.map nV))) ⟨F, _, _, rfl, mi.begin hs, e, hF⟩ (fun k σ H' _ ⟨_, _, _, _, _, e, _⟩ => .of (e.at ha (by simp))) ?_ ?_
          · rintro k v σ H' hv ⟨F, y3, y4, rfl, mw, e, hF⟩
            obtain ⟨c, hc, rfl⟩ := map_at hv
            obtain ⟨p, hp, hcp⟩ := Paired.get' hps hc
            have hcp := hcp.ext0 e
            refine ⟨c, _, rfl, hcp, rfl, _, _, rfl, _, _, rfl, rfl, ?_⟩
            refine ⟨_, rfl, _, rfl, f, _, rfl, .inl (.of hF), rfl, flat_nV F, _, rfl, ?_⟩
            have pb : p.2 < b.length := (hto x).2 p (List.mem_of_getElem? hp)
            rw [show inV (V.int (p.2 : Int)) (F.map nV) = decide (p.2 ∈ F) from inV_nV p.2 F]
            by_cases hin : p.2 ∈ F
            · rw [decide_eq_true hin]
              exact iteF ⟨F, _, _, rfl, mw.skip hp hin, e, hF⟩
            · rw [decide_eq_false hin]
              have hl1000 : F.length ≤ 1000 := Nat.le_trans (nodup_le mw.nd mw.lt) h2
              refine iteT ⟨_, rfl, .inl ⟨rfl, _, .of hF⟩, _, rfl, f, _, _, rfl, rfl, hF, by rw [List.length_map]; exact small1000 hl1000, F ++ [p.2], _, _, rfl, mw.push hp hin pb, e.put hf, ?_⟩
              rw [upd_same, List.map_append]
              rfl
          · rintro σ H' ⟨F, y3, y4, rfl, mw, e, hF⟩
            exact ⟨F, _, _, _, rfl, mw.done (by rw [List.length_map, plen]; exact Nat.le_refl _), e, hF⟩
      · rintro σ H' ⟨F, y2, y3, y4, rfl, mi, e, hF⟩
        exact ⟨F, _, _, _, rfl, mi.met (.inr (by rw [Int.toNat_natCast, llen])), e, hF⟩
    · rintro σ H1 ⟨F, y2, y3, y4, rfl, mt, e1, hF⟩
      have hl1000 : F.length ≤ 1000 := Nat.le_trans (nodup_le mt.nd mt.lt) h2
      -- the new book
      refine ⟨_, rfl, f, rfl, ⟨_, .of hF⟩, fun D hD => ?_⟩
      have fD : f ≠ D := ne_of_none hF hD
      have hDH : H D = none := e1.free hD
      refine lc_list (K := K) (a := f) (xs := F.map nV) (fun i H' => ∃ vs : List V, H' D = some (.lst vs) ∧ Paired (StV K H') vs ((rename b F).take i) ∧ Ext [] H H' ∧ H' f = some (.lst (F.map nV))) ⟨[], upd_same, .nil, e1.put2 hD, by rw [upd_ne fD]; exact hF⟩ (fun i H' _ ⟨_, _, _, _, h⟩ => .of h) ?_ ?_
      · rintro i v H' hv ⟨vs, hDv, hpd, e, hF'⟩
        obtain ⟨x, hx, rfl⟩ := map_at hv
        have hxb : x < b.length := mt.lt x (List.mem_of_getElem? hx)
        obtain ⟨u, hu, a, ps, rfl, ha, hps⟩ := Paired.get hls (mvs_lt hxb)
        have plen : ps.length = (mvs b x).length := Paired.len hps
        refine ⟨rfl, yes ?_⟩
        refine ⟨_, rfl, _, rfl, m, _, _, _, rfl, rfl, .of (e.at hm (by simp)), atI_nat hu, a, rfl, ⟨_, .of (e.at ha (by simp))⟩, fun D2 hD2 => ?_⟩
        have hD2H : H D2 = none := e.free hD2
        have n1 : D ≠ D2 := ne_of_none hDv hD2
        have n2 : f ≠ D2 := ne_of_none hF' hD2
        refine lc_list (K := K) (a := a) (xs := ps.map V.ref) (fun k H2 => ∃ qs : List Addr, H2 D2 = some (.lst (qs.map V.ref)) ∧ Paired (MvV K H2) qs (((mvs b x).take k).map fun p => (p.1, F.idxOf p.2)) ∧ Ext [] H' H2) ⟨[], upd_same, .nil, .new hD2⟩ (fun k H2 _ ⟨_, _, _, e2⟩ => .of ((e.trans e2).at ha (by simp))) ?_ ?_
        · rintro k v H2 hv ⟨qs, hq, hqp, e2⟩
          obtain ⟨c, hc, rfl⟩ := map_at hv
          obtain ⟨p, hp, hcp⟩ := Paired.get' hps hc
          have hcp := hcp.ext0 (e.trans e2)
          have hF2 := e2.at hF' (by simp)
          have pin : p.2 ∈ F := mt.cl x (List.mem_of_getElem? hx) p (List.mem_of_getElem? hp)
          have hidx : F.idxOf p.2 < F.length := List.idxOf_lt_length_of_mem pin
          refine ⟨c, _, rfl, hcp, rfl, _, _, rfl, _, _, rfl, rfl, rfl, yes ?_⟩
          refine ⟨_, rfl, _, rfl, .inl ⟨rfl, _, .of hF2⟩, _, rfl, f, _, _, F.idxOf p.2, nV p.2, rfl, rfl, .of hF2, rfl, flat_nV F, ?_, by rw [show V.int (p.2 : Int) = nV p.2 from rfl, eqV_nV]; simp, ?_, ?_⟩
          · exact at_map (by rw [List.getElem?_eq_getElem hidx, List.getElem_idxOf])
          · intro j z hj hz
            obtain ⟨y, hy, rfl⟩ := map_at hz
            rw [show V.int (p.2 : Int) = nV p.2 from rfl, eqV_nV]
            refine decide_eq_false fun ey => ?_
            subst ey
            have := idx_of mt.nd hy
            omega
          · refine ⟨(by show 2 ≤ sizeLine; decide), fun t ht => ?_⟩
            have tD2 : D2 ≠ t := ne_of_none hq ht
            have e3 : Ext [] H2 (upd H2 t (.tup [.int p.1, .int (F.idxOf p.2 : Nat)])) := .new ht
            refine ⟨_, e3.at hq (by simp), ?_, qs ++ [t], by rw [upd_same, List.map_append]; rfl, ?_, (e2.trans e3).put hD2⟩
            · rw [List.length_map, Paired.len hqp, List.length_map, List.length_take]
              exact small1000 (Nat.le_trans (Nat.min_le_right _ _) (hto x).1)
            · rw [List.take_add_one, hp, List.map_append]
              refine Paired.snoc ?_ (Paired.imp hqp fun _ _ z => (z.ext0 e3).put (e3.at hq (by simp)))
              exact MvV.put (m := (p.1, F.idxOf p.2)) (.of upd_same) (e3.at hq (by simp))
        · rintro H2 ⟨qs, hq, hqp, e2⟩
          have ek : (mvs b x).take (ps.map V.ref).length = mvs b x := List.take_of_length_le (by rw [List.length_map, plen]; exact Nat.le_refl _)
          rw [ek] at hqp
          refine ⟨D2, _, rfl, .of hq, fun t H3 ht hH3 => ?_⟩
          obtain ⟨o, od, rfl⟩ := hH3
          have e3 : Ext [] H2 (upd H2 t (.frz o (.tup (qs.map V.ref)))) := .new ht
          have e4 := e2.trans e3
          refine ⟨vs, e4.at hDv (by simp), ?_, vs ++ [.ref t], upd_same, ?_, (e.trans e4).put hDH, by rw [upd_ne fD]; exact e4.at hF' (by simp)⟩
          · rw [Paired.len hpd, List.length_take]
            exact small1000 (Nat.le_trans (Nat.min_le_right _ _) (by rw [rename_len]; exact hl1000))
          · have hr' : (rename b F)[i]? = some ((mvs b x).map fun p => (p.1, F.idxOf p.2)) := by
              unfold rename
              rw [List.getElem?_map, hx]
              rfl
            rw [List.take_add_one, hr']
            have hDe := e4.at hDv (by simp)
            refine Paired.snoc ?_ (Paired.imp hpd fun _ _ z => (z.ext0 e4).put hDe)
            exact StV.put ⟨t, qs, rfl, ⟨o, upd_same, od⟩, Paired.imp hqp fun _ _ z => z.ext0 e3⟩ hDe
      · rintro H' ⟨vs, hDv, hpd, e, hF'⟩
        refine ⟨D, vs, rfl, .of hDv, fun t H3 ht hH3 => ?_⟩
        obtain ⟨o, od, rfl⟩ := hH3
        have e3 : Ext [] H' (upd H' t (.frz o (.tup vs))) := .new ht
        have ek : (rename b F).take (F.map nV).length = rename b F := List.take_of_length_le (by rw [List.length_map, rename_len]; exact Nat.le_refl _)
        rw [ek] at hpd
        exact q F _ _ mt ⟨t, vs, rfl, .inl (.inr ⟨o, upd_same⟩), Paired.imp hpd fun _ _ z => z.ext0 e3⟩ (e.trans e3)
end
end Nv
set_option Elab.async false
set_option linter.all false
set_option maxRecDepth 100000
namespace Nv
open PySem PySem.Spec PyProof.Rows L2
section
variable {P : Program} {w : World} {K : PySem.W.Frag} {mg : Str → Option Value} {base : Heap}
/-! ### the law's books: messages -/
theorem seqAt {k n : Nat} (h : k < n) : seqIndex? (k : Int) n = some k := by
  unfold seqIndex?
  have h1 : ¬ ((k : Int) < 0) := by omega
  have h2 : (0 : Int) ≤ k := by omega
  have h3 : (k : Int) < n := by omega
  simp [h1, h2, h3]
theorem sorted_nats {F : List Nat} {ns : List Int} (nd : F.Nodup) (p : ns.Perm (F.map fun n : Nat => (n : Int))) (r : ns.Pairwise (· ≤ ·)) : ∃ ms : List Nat, ns.map V.int = ms.map nV ∧ ms.Perm F ∧ ms.Pairwise (· < ·) := by
  have nn : ∀ z ∈ ns, ∃ n : Nat, z = (n : Int) := fun z hz => by
    obtain ⟨n, _, rfl⟩ := List.mem_map.mp (p.mem_iff.mp hz)
    exact ⟨n, rfl⟩
  have nd2 : ns.Nodup := by
    rw [p.nodup_iff]
    refine List.Pairwise.map _ (fun a b h e => h ?_) nd
    exact Int.ofNat.inj e
  have r2 := lt_of_le_nodup ns r nd2
  refine ⟨ns.map Int.toNat, ?_, ?_, ?_⟩
  · rw [List.map_map]
    refine List.map_congr_left fun z hz => ?_
    obtain ⟨n, rfl⟩ := nn z hz
    rfl
  · have q := p.map Int.toNat
    rw [List.map_map] at q
    have e : F.map (Int.toNat ∘ fun n : Nat => (n : Int)) = F := by
      conv => rhs; rw [← List.map_id F]
      exact List.map_congr_left fun z _ => rfl
    rw [e] at q
    exact q
  · rw [List.pairwise_map]
    refine List.Pairwise.imp_of_mem (fun {a b} ha hb h => ?_) r2
    obtain ⟨n, rfl⟩ := nn a ha
    obtain ⟨m, rfl⟩ := nn b hb
    simp
    omega
theorem map_nV_int (F : List Nat) : F.map nV = (F.map fun n : Nat => (n : Int)).map V.int := by rw [List.map_map]; rfl
theorem rgV_nV (n : Nat) : rgV 0 (n : Int) = (List.range n).map nV := by
  unfold rgV
  simp
theorem sc_law_book_messages : FnScope ["pool", "count", "way", "top", "left", "found", "turn"] ["pool", "count"] (defScope s_law_book_messages) := ⟨rfl, rfl, rfl, by decide +kernel, rfl, by decide +kernel, by decide +kernel⟩
def sp_law_book_messages : Sp := fun vs H Q _ => ∃ (p l : Addr) (c : Nat), vs = [.ref p, .int c] ∧ PoolAt H p l ∧ c ≤ 6 ∧ ∀ (ms : List Nat) (t : Addr) (H' : Hp), ms.Pairwise (· < ·) → ms.length = c → (∀ m ∈ ms, m ≤ 99) → H' t = some (.lst (ms.map nV)) → H t = none → PoolAt H' p l → Ext [p, l] H H' → Q (.ref t) H'
theorem ok_law_book_messages (T : Tx K mg) : FnOk P w K mg base CX0 2 T.law_book_messages.f T.law_book_messages.fd ["pool", "count"] sp_law_book_messages := by
  refine T.law_book_messages.F.ok sc_law_book_messages (fun vs H Q E h => ?_) (fun cdv A outer s H vs Q E hr h => ?_)
  · obtain ⟨p, l, c, rfl, _⟩ := h; rfl
  · obtain ⟨p, l, c, rfl, hP, hc, q⟩ := h
    refine ⟨_, (pss_cons (ps_set (i := 2) sc_law_book_messages.nd rfl (.inl rfl) (pe_call (ok_law_draw T) (hr.mono (by decide)) (by rfl) T.law_draw.g T.law_draw.F.kp T.law_draw.b .nil pass0 (pa_cons (pv 0) (pa_cons pe_int pa_nil))))
      (C8.pss_cut (ps_set (i := 3) sc_law_book_messages.nd rfl (.inl rfl) (pe_ix ix_list (pe_lst (pa_cons (pv 1) (pa_cons (pv 1) (pa_cons (pe_callB (call_min2 rfl) (by rfl) T.n_min (by decide +kernel) (pa_cons (pe_op op_add (pv 1) pe_int) (pa_cons pe_int pa_nil))) (pa_cons pe_int pa_nil))))) (pv 2) (fun _ _ => rfl)))
      (pss_cons (ps_par (i := 4) (j := 5) (by rfl) sc_law_book_messages.nd rfl rfl (by decide) rfl rfl (pa_cons (pe_listRg rfl (by rfl) T.n_list (prg_1 (by rfl) T.n_range (pv 3))) (pa_cons (pe_lst pa_nil) pa_nil)) (by rfl))
      (pss_cons (ps_for PassesOwn.never rfl (pi_range1 (by rfl) T.n_range (pa_cons (pv 1) pa_nil)) (pg_name (i := 6) sc_law_book_messages.nd rfl (.inl rfl))
        (pss_one (ps_expr (pe_bm PySem.F.plainAttrs_list PySem.F.slot_list_append PySem.F.type_list_append mt_append (pv 5) (pa_cons (pe_bm PySem.F.plainAttrs_list PySem.F.slot_list_pop PySem.F.type_list_pop mt_popAt (pv 4) (pa_cons (pe_mid (pe_ifExp (pt_cmpR op_lt (pv 2) pe_int (nomark _)) (pe_call (ok_law_draw T) (hr.mono (by decide)) (by rfl) T.law_draw.g T.law_draw.F.kp T.law_draw.b .nil pass0 (pa_cons (pv 0) (pa_cons (pe_callB call_len_seq (by rfl) T.n_len PySem.boot_len (pa_cons (pv 4) pa_nil)) pa_nil))) (pe_op op_sub (pe_op op_sub (pe_callB call_len_seq (by rfl) T.n_len PySem.boot_len (pa_cons (pv 4) pa_nil)) pe_int) (pe_call (ok_law_draw T) (hr.mono (by decide)) (by rfl) T.law_draw.g T.law_draw.F.kp T.law_draw.b .nil pass0 (pa_cons (pv 0) (pa_cons pe_int pa_nil)))))) pa_nil)) pa_nil)))))
      (pss_one (ps_ret (pe_callB cr_sorted (by rfl) T.n_sorted (by decide +kernel) (pa_cons (pv 5) pa_nil)))))))), ?_⟩
    -- way
    refine ⟨_, rfl, p, l, 4, rfl, hP, by decide, by decide, fun r H1 r0 r1 P1 e1 => ?_⟩
    -- top
    refine ⟨fun σ H' => ∃ top : Nat, σ = [some (.ref p), some (.int c), some (.int r), some (.int top), none, none, none] ∧ c ≤ top ∧ top ≤ 100 ∧ (r < 3 ∨ top = 100) ∧ PoolAt H' p l ∧ Ext [p, l] H H', ?_, ?_⟩
    · refine ⟨_, rfl, _, rfl, _, rfl, _, _, rfl, rfl, _, _, rfl, (by show 4 ≤ sizeLine; decide), fun d hd => ?_⟩
      have e2 : Ext [] H1 (upd H1 d (.lst [.int c, .int c, .int (if (6 : Int) < (c : Int) + 2 then 6 else (c : Int) + 2), .int 100])) := .new hd
      have m : ∃ t : Nat, (if (6 : Int) < (c : Int) + 2 then 6 else (c : Int) + 2) = t ∧ c ≤ t ∧ t ≤ 100 := by
        by_cases h : (6 : Int) < (c : Int) + 2
        · rw [if_pos h]; exact ⟨6, rfl, hc, by decide⟩
        · rw [if_neg h]; exact ⟨c + 2, by simp, by omega, by omega⟩
      obtain ⟨t, ht, t1, t2⟩ := m
      have four : r = 0 ∨ r = 1 ∨ r = 2 ∨ r = 3 := by omega
      have pe := P1.ext0 e2
      have ee := e1.trans e2.weak
      rcases four with rfl | rfl | rfl | rfl
      · exact ⟨_, rfl, d, _, _, _, rfl, rfl, .of upd_same, atI_nat (j := 0) rfl, c, rfl, Nat.le_refl _, by omega, .inl (by decide), pe, ee⟩
      · exact ⟨_, rfl, d, _, _, _, rfl, rfl, .of upd_same, atI_nat (j := 1) rfl, c, rfl, Nat.le_refl _, by omega, .inl (by decide), pe, ee⟩
      · exact ⟨_, rfl, d, _, _, _, rfl, rfl, .of upd_same, atI_nat (j := 2) rfl, t, by rw [ht]; rfl, t1, t2, .inl (by decide), pe, ee⟩
      · exact ⟨_, rfl, d, _, _, _, rfl, rfl, .of upd_same, atI_nat (j := 3) rfl, 100, rfl, by omega, Nat.le_refl _, .inr rfl, pe, ee⟩
    · rintro σ H2 ⟨top, rfl, c1, c2, c3, P2, e2⟩
      -- left, found
      refine ⟨_, rfl, _, rfl, RgOk.of_le (by omega) (by omega) (by omega) (by omega), fun lf hlf => ⟨Nat.zero_le _, fun fd hfd => ⟨_, _, rfl, ?_⟩⟩⟩
      rw [rgV_nV] at hfd ⊢
      have e3 : Ext [] H2 (upd H2 lf (.lst ((List.range top).map nV))) := .new hlf
      have e4 := e3.trans (Ext.new (L := []) (o := .lst []) hfd)
      have nlf : fd ≠ lf := fun z => by rw [z, upd_same] at hfd; cases hfd
      have h2p : H2 p ≠ none := by obtain ⟨_, _, _, _, a, _⟩ := P2; rw [a]; simp
      have h2l : H2 l ≠ none := by obtain ⟨_, _, _, _, _, a, _⟩ := P2; rw [a]; simp
      have n1 : lf ≠ p := fun z => h2p (z ▸ hlf)
      have n2 : lf ≠ l := fun z => h2l (z ▸ hlf)
      have hfd2 := e3.free hfd
      have n3 : fd ≠ p := fun z => h2p (z ▸ hfd2)
      have n4 : fd ≠ l := fun z => h2l (z ▸ hfd2)
      have f1 : H lf = none := e2.free2 hlf (off2 n1 n2)
      have f2 : H fd = none := e2.free2 hfd2 (off2 n3 n4)
      -- the loop
      refine ⟨_, rfl, _, rfl, by omega, by omega, for_range (lo := 0) (n := _) (fun i σ H' => ∃ (L F : List Nat) (y : Option V), σ = [some (.ref p), some (.int c), some (.int r), some (.int top), some (.ref lf), some (.ref fd), y] ∧ H' lf = some (.lst (L.map nV)) ∧ H' fd = some (.lst (F.map nV)) ∧ (F ++ L).Perm (List.range top) ∧ F.length = i ∧ PoolAt H' p l ∧ Ext [p, l] H H')
        ⟨List.range top, [], _, rfl, by rw [upd_ne nlf.symm, upd_same], upd_same, .refl _, rfl, P2.ext0 e4, e2.trans e4.weak⟩ ?_ ?_⟩
      · rintro i σ H' hi ⟨L, F, y, rfl, hL, hF, hperm, hFl, P', e'⟩
        have hi : i < c := by have : ((c : Int)).toNat = c := Int.toNat_natCast _; omega
        have tot : F.length + L.length = top := by have := hperm.length_eq; simpa using this
        have Lpos : 0 < L.length := by omega
        refine ⟨_, rfl, .inl ⟨rfl, _, .of hF⟩, _, rfl, .inl ⟨rfl, _, .of hL⟩, ?_⟩
        -- the index
        refine ⟨fun v H3 => ∃ k : Nat, v = .int k ∧ k < L.length ∧ H3 lf = some (.lst (L.map nV)) ∧ H3 fd = some (.lst (F.map nV)) ∧ PoolAt H3 p l ∧ Ext [p, l] H H3, ?_, ?_⟩
        · refine ⟨_, rfl, _, _, rfl, rfl, _, rfl, ite2 (fun z => ?_) (fun z => ?_)⟩
          · refine ⟨_, rfl, _, rfl, lf, _, rfl, .inl (.of hL), p, l, _, rfl, P', by rw [List.length_map]; omega, by rw [List.length_map]; omega, fun k H3 k0 k1 P3 e3' => ?_⟩
            rw [List.length_map] at k1
            exact ⟨k.toNat, by rw [Int.toNat_of_nonneg k0], by omega, e3' _ _ (off2 n1 n2) hL, e3' _ _ (off2 n3 n4) hF, P3, e'.trans e3'⟩
          · have z : ¬ r < 3 := fun w => z (decide_eq_true w)
            have t100 : top = 100 := by rcases c3 with c3 | c3; exact absurd c3 z; exact c3
            refine ⟨_, rfl, lf, _, rfl, .inl (.of hL), _, _, rfl, rfl, _, rfl, p, l, 3, rfl, P', by decide, by decide, fun k H3 k0 k1 P3 e3' => ?_⟩
            refine ⟨_, _, rfl, rfl, (L.length - 1 - k.toNat), ?_, by omega, e3' _ _ (off2 n1 n2) hL, e3' _ _ (off2 n3 n4) hF, P3, e'.trans e3'⟩
            have e5 : ((L.map nV).length : Int) - 1 - k = ((L.length - 1 - k.toNat : Nat) : Int) := by
              rw [List.length_map]
              omega
            exact congrArg V.int e5
        · rintro v H3 ⟨k, rfl, hk, hL3, hF3, P3, e3'⟩
          have hy : L[k]? = some L[k] := List.getElem?_eq_getElem hk
          generalize L[k] = y at hy
          refine ⟨lf, _, _, k, nV y, rfl, rfl, hL3, by omega, by omega, by rw [List.length_map]; exact seqAt hk, at_map hy, ?_⟩
          have el : (L.map nV).eraseIdx k = (L.eraseIdx k).map nV := eraseIdx_nV nV L k
          rw [el]
          have hF4 : upd H3 lf (.lst ((L.eraseIdx k).map nV)) fd = some (.lst (F.map nV)) := by rw [upd_ne nlf]; exact hF3
          refine ⟨fd, _, _, rfl, rfl, hF4, by rw [List.length_map]; exact small1000 (by omega), L.eraseIdx k, F ++ [y], _, rfl, by rw [upd_ne nlf.symm, upd_same], ?_, ?_, ?_, ?_, ?_⟩
          · rw [upd_same, List.map_append]; rfl
          · rw [List.append_assoc]
            exact (List.Perm.append_left F (erase_perm L k y hy)).trans hperm
          · rw [List.length_append, hFl]; rfl
          · refine P3.ext (L := [lf, fd]) ((Ext.wr (by simp)).trans (.wr (by simp))) ?_ ?_
            · simp [n1.symm, n3.symm]
            · simp [n2.symm, n4.symm]
          · exact (e3'.put' f1).put' f2
      · rintro σ H' ⟨L, F, y, rfl, hL, hF, hperm, hFl, P', e'⟩
        rw [Int.toNat_natCast] at hFl
        have nd : F.Nodup := (List.nodup_append.mp (hperm.nodup_iff.mpr List.nodup_range)).1
        refine ⟨_, rfl, fd, F.map (fun n : Nat => (n : Int)), rfl, .of (by rw [← map_nV_int]; exact hF), by rw [List.length_map]; omega, fun ns t perm rise ht => ?_⟩
        obtain ⟨ms, e1', e2', e3'⟩ := sorted_nats nd perm rise
        rw [e1']
        have ft : H t = none := e'.free2 ht (off2 (fun z => ?_) (fun z => ?_))
        · refine q ms t _ e3' (by rw [e2'.length_eq]; exact hFl) (fun m hm => ?_) upd_same ft (P'.ext (L := [t]) (.wr (by simp)) ?_ ?_) (e'.put' ft)
          · have h1 := hperm.mem_iff.mp (List.mem_append_left L (e2'.mem_iff.mp hm))
            have := List.mem_range.mp h1
            omega
          · obtain ⟨_, _, _, _, a, _⟩ := P'
            simp
            exact fun z => by rw [z, ht] at a; cases a
          · obtain ⟨_, _, _, _, _, a, _⟩ := P'
            simp
            exact fun z => by rw [z, ht] at a; cases a
        · obtain ⟨_, _, _, _, a, _⟩ := P'
          rw [← z, ht] at a; cases a
        · obtain ⟨_, _, _, _, _, a, _⟩ := P'
          rw [← z, ht] at a; cases a
end
end Nv
set_option Elab.async false
set_option linter.all false
set_option maxRecDepth 100000
namespace Nv
open PySem PySem.Spec PyProof.Rows L2
section
variable {P : Program} {w : World} {K : PySem.W.Frag} {mg : Str → Option Value} {base : Heap}
/-! ### the law's books: drawn -/
theorem PoolAt.off {H : Hp} {p l x : Addr} (h : PoolAt H p l) (hx : H x = none) : x ≠ p ∧ x ≠ l := by
  obtain ⟨_, _, _, _, a, b, _⟩ := h
  refine ⟨fun z => ?_, fun z => ?_⟩
  · rw [z, a] at hx
    cases hx
  · rw [z, b] at hx
    cases hx
theorem PoolAt.put {H : Hp} {p l x : Addr} {o : HO} (h : PoolAt H p l) (h1 : x ≠ p) (h2 : x ≠ l) : PoolAt (upd H x o) p l := h.ext (L := [x]) (.wr (by simp)) (by simp; exact h1.symm) (by simp; exact h2.symm)
structure StD (n m : Nat) (s : State) : Prop where
  few : s.length ≤ m
  rise : (s.map (·.1)).Pairwise (· < ·)
  msg : ∀ q ∈ s, q.1 ≤ 99
  to : ∀ q ∈ s, q.2 < n
theorem StD.set {n m : Nat} {s : State} (h : StD n m s) {k : Nat} {q : Nat × Nat} (hq : s[k]? = some q) {t : Nat} (ht : t < n) : StD n m (s.set k (q.1, t)) := by
  have hm := List.mem_of_getElem? hq
  have e : (s.set k (q.1, t)).map (·.1) = s.map (·.1) := by
    rw [List.map_set]
    refine List.ext_getElem? fun i => ?_
    by_cases hi : k = i
    · subst hi
      have hk : k < (s.map (·.1)).length := by
        rw [List.length_map]
        exact (List.getElem?_eq_some_iff.mp hq).1
      rw [List.getElem?_set_self hk, List.getElem?_map, hq]
      rfl
    · rw [List.getElem?_set_ne hi]
  refine ⟨by rw [List.length_set]; exact h.few, by rw [e]; exact h.rise, fun z hz => ?_, fun z hz => ?_⟩
  · rcases List.mem_or_eq_of_mem_set hz with hz | rfl
    · exact h.msg z hz
    · exact h.msg q hm
  · rcases List.mem_or_eq_of_mem_set hz with hz | rfl
    · exact h.to z hz
    · exact ht
theorem sc_law_book_drawn : FnScope ["pool", "states", "most", "size", "way", "moves", "state", "count", "told", "message", "to", "at"] ["pool", "states", "most"] (defScope s_law_book_drawn) := ⟨rfl, rfl, rfl, by decide +kernel, rfl, by decide +kernel, by decide +kernel⟩
def sp_law_book_drawn (K : PySem.W.Frag) : Sp := fun vs H Q _ => ∃ (p l : Addr) (S M : Nat), vs = [.ref p, .int S, .int M] ∧ PoolAt H p l ∧ 1 ≤ S ∧ S ≤ 8 ∧ M ≤ 5 ∧ ∀ (b : Book) (v : V) (H' : Hp), OkB b → b.length ≤ S → (∀ s ∈ b, s.length ≤ M) → BkV K H' v b → PoolAt H' p l → Ext [p, l] H H' → Q v H'
theorem ok_law_book_drawn (T : Tx K mg) : FnOk P w K mg base CX0 3 T.law_book_drawn.f T.law_book_drawn.fd ["pool", "states", "most"] (sp_law_book_drawn K) := by
  refine T.law_book_drawn.F.ok sc_law_book_drawn (fun vs H Q E h => ?_) (fun cdv A outer s H vs Q E hr h => ?_)
  · obtain ⟨p, l, S, M, rfl, _⟩ := h; rfl
  · obtain ⟨p, l, S, M, rfl, hP, hS1, hS8, hM, q⟩ := h
    refine ⟨_, (pss_cons (ps_par3 (i := 3) (j := 4) (l := 5) rfl sc_law_book_drawn.nd rfl rfl rfl (by decide) (by decide) (by decide) rfl rfl rfl (pa_cons (pe_op op_add pe_int (pe_call (ok_law_draw T) (hr.mono (by decide)) (by rfl) T.law_draw.g T.law_draw.F.kp T.law_draw.b .nil pass0 (pa_cons (pv 0) (pa_cons (pv 1) pa_nil)))) (pa_cons (pe_call (ok_law_draw T) (hr.mono (by decide)) (by rfl) T.law_draw.g T.law_draw.F.kp T.law_draw.b .nil pass0 (pa_cons (pv 0) (pa_cons pe_int pa_nil))) (pa_cons (pe_lst pa_nil) pa_nil))) (by rfl))
      (pss_cons (ps_for PassesOwn.never rfl (pi_range1 (by rfl) T.n_range (pa_cons (pv 3) pa_nil)) (pg_name (i := 6) sc_law_book_drawn.nd rfl (.inl rfl))
        (pss_cons (ps_set (i := 7) sc_law_book_drawn.nd rfl (.inl rfl) (pe_call (ok_law_pick T) (hr.mono (by decide)) (by rfl) T.law_pick.g T.law_pick.F.kp T.law_pick.b .nil pass0 (pa_cons (pv 0) (pa_cons (pe_lst (pa_cons pe_int (pa_cons pe_int (pa_cons pe_int (pa_cons pe_int (pa_cons (pe_callB (call_min2 rfl) (by rfl) T.n_min (by decide +kernel) (pa_cons pe_int (pa_cons (pv 2) pa_nil))) (pa_cons (pe_call (ok_law_draw T) (hr.mono (by decide)) (by rfl) T.law_draw.g T.law_draw.F.kp T.law_draw.b .nil pass0 (pa_cons (pv 0) (pa_cons (pe_op op_add (pv 2) pe_int) pa_nil))) pa_nil))))))) pa_nil))))
        (C8.pss_cut (ps_if (PW.pt (pw_and (pt_cmpR op_gt (pv 4) pe_int (nomark _)) (pw_and1 (pt_cmpR op_eq (pv 6) (pe_op op_sub (pv 3) pe_int) (nomark _)))))
          (pss_one (ps_set (i := 7) sc_law_book_drawn.nd rfl (.inl rfl) pe_int))
          pss_nil)
        (pss_cons (ps_set (i := 8) sc_law_book_drawn.nd rfl (.inl rfl) (pe_lst pa_nil))
        (pss_cons (ps_for PassesOwn.never rfl (pi_list (pe_call (ok_law_book_messages T) (hr.mono (by decide)) (by rfl) T.law_book_messages.g T.law_book_messages.F.kp T.law_book_messages.b .nil pass0 (pa_cons (pv 0) (pa_cons (pe_callB (call_min2 rfl) (by rfl) T.n_min (by decide +kernel) (pa_cons (pv 7) (pa_cons (pv 2) pa_nil))) pa_nil)))) (pg_name (i := 9) sc_law_book_drawn.nd rfl (.inl rfl))
          (pss_cons (ps_set (i := 10) sc_law_book_drawn.nd rfl (.inl rfl) (pe_call (ok_law_draw T) (hr.mono (by decide)) (by rfl) T.law_draw.g T.law_draw.F.kp T.law_draw.b .nil pass0 (pa_cons (pv 0) (pa_cons (pv 3) pa_nil))))
          (C8.pss_cut (ps_if (PW.pt (pw_and (pt_cmpR op_gt (pv 4) pe_int (nomark _)) (pw_and1 (pt_cmpR op_lt (pv 6) (pe_op op_sub (pv 3) pe_int) (nomark _)))))
            (pss_one (ps_set (i := 10) sc_law_book_drawn.nd rfl (.inl rfl) (pe_op op_add (pe_op op_add (pv 6) pe_int) (pe_call (ok_law_draw T) (hr.mono (by decide)) (by rfl) T.law_draw.g T.law_draw.F.kp T.law_draw.b .nil pass0 (pa_cons (pv 0) (pa_cons (pe_op op_sub (pe_op op_sub (pv 3) pe_int) (pv 6)) pa_nil))))))
            pss_nil)
          (pss_one (ps_expr (pe_bm PySem.F.plainAttrs_list PySem.F.slot_list_append PySem.F.type_list_append mt_append (pv 8) (pa_cons (pe_tup (pa_cons (pv 9) (pa_cons (pv 10) pa_nil))) pa_nil)))))))
        (C8.pss_cut (ps_if (PW.pt (pw_and (pt_cmpR op_gt (pv 4) pe_int (nomark _)) (pw_and1 (pt_cmpR (op_neD (hr.units)) (pv 8) (pe_lst pa_nil) (nomark _)))))
          (pss_cons (ps_set (i := 11) sc_law_book_drawn.nd rfl (.inl rfl) (pe_call (ok_law_draw T) (hr.mono (by decide)) (by rfl) T.law_draw.g T.law_draw.F.kp T.law_draw.b .nil pass0 (pa_cons (pv 0) (pa_cons (pe_callB call_len_seq (by rfl) T.n_len PySem.boot_len (pa_cons (pv 8) pa_nil)) pa_nil))))
          (pss_one (ps_asg (pe_tup (pa_cons (pe_ix ix_tup (pe_ix ix_list (pv 8) (pv 11) (fun _ _ => rfl)) pe_int (fun _ _ => rfl)) (pa_cons (pe_mid (pe_ifExp (pt_cmpR op_lt (pv 4) pe_int (nomark _)) (pe_op op_mod (pe_callTy call_int1 (by rfl) T.n_int (by decide +kernel) (pa_cons (pe_op op_add (pv 6) pe_int) pa_nil)) (pv 3)) (pe_callB (call_min2 rfl) (by rfl) T.n_min (by decide +kernel) (pa_cons (pe_op op_add (pv 6) pe_int) (pa_cons (pe_op op_sub (pv 3) pe_int) pa_nil))))) pa_nil))) (pg_sub (pv 8) (pv 11) set_list))))
          pss_nil)
        (pss_one (ps_expr (pe_bm PySem.F.plainAttrs_list PySem.F.slot_list_append PySem.F.type_list_append mt_append (pv 5) (pa_cons (pv 8) pa_nil))))))))))
      (pss_one (ps_ret (pe_call (ok_law_book_meeting T) (hr.mono (by decide)) (by rfl) T.law_book_meeting.g T.law_book_meeting.F.kp T.law_book_meeting.b .nil pass0 (pa_cons (pv 5) pa_nil)))))), ?_⟩
    -- size, way, moves
    refine ⟨_, rfl, _, rfl, p, l, _, rfl, hP, by omega, by omega, fun r H1 r0 r1 P1 e1 => ⟨_, _, rfl, rfl, ?_⟩⟩
    refine ⟨_, rfl, p, l, 6, rfl, P1, by decide, by decide, fun way H2 w0 w1 P2 e2 => ⟨Nat.zero_le _, fun mv hmv => ⟨_, _, _, rfl, ?_⟩⟩⟩
    obtain ⟨n, hn⟩ : ∃ n : Nat, 1 + r = (n : Int) := ⟨(1 + r).toNat, by omega⟩
    have hn1 : 1 ≤ n := by omega
    have hnS : n ≤ S := by omega
    show _
    simp only [hn]
    obtain ⟨mp, ml⟩ := P2.off hmv
    have fmv : H mv = none := (e1.trans e2).free2 hmv (off2 mp ml)
    -- the loop
    refine ⟨_, rfl, _, rfl, by omega, by omega, for_range (lo := 0) (n := _) (fun i σ H' => ∃ (vs : List V) (b : Book) (y6 y7 y8 y9 y10 y11 : Option V), σ = [some (.ref p), some (.int S), some (.int M), some (.int n), some (.int way), some (.ref mv), y6, y7, y8, y9, y10, y11] ∧ b.length = i ∧
      H' mv = some (.lst vs) ∧ Paired (LsN K H' [p, l, mv]) vs b ∧ (∀ s ∈ b, StD n M s) ∧ PoolAt H' p l ∧ Ext [p, l] H H')
      ⟨[], [], _, _, _, _, _, _, rfl, rfl, upd_same, .nil, (fun s z => nomatch z), P2.put mp ml, (e1.trans e2).put' fmv⟩ ?_ ?_⟩
    · rintro i σ H' hi ⟨vs, b, y6, y7, y8, y9, y10, y11, rfl, hbl, hv, hpd, hst, P', e'⟩
      have hi : i < n := by have : ((n : Int)).toNat = n := Int.toNat_natCast _; omega
      simp only [Int.zero_add]
      -- count
      refine ⟨_, rfl, _, rfl, _, _, rfl, _, rfl, _, rfl, _, _, rfl, rfl, p, l, _, rfl, P', by omega, by omega, fun c0 H3 c00 c01 P3 e3 => ?_⟩
      refine ⟨(by show 6 ≤ sizeLine; decide), fun t ht => ?_⟩
      obtain ⟨tp, tl⟩ := P3.off ht
      refine ⟨p, l, t, _, rfl, P3.put tp tl, .of upd_same, tp, tl, (by show 0 < 6; decide), (by show 6 < 1000; decide), fun k v H4 hk P4 e4 => ?_⟩
      have hc : ∃ c : Nat, v = .int c ∧ c ≤ 5 := by
        have six : k < 6 := (List.getElem?_eq_some_iff.mp hk).1
        have : k = 0 ∨ k = 1 ∨ k = 2 ∨ k = 3 ∨ k = 4 ∨ k = 5 := by omega
        rcases this with rfl | rfl | rfl | rfl | rfl | rfl
        · exact ⟨1, (Option.some.inj hk).symm, by decide⟩
        · exact ⟨1, (Option.some.inj hk).symm, by decide⟩
        · exact ⟨2, (Option.some.inj hk).symm, by decide⟩
        · exact ⟨2, (Option.some.inj hk).symm, by decide⟩
        · have z := (Option.some.inj hk).symm
          by_cases hm : (M : Int) < 2
          · rw [if_pos hm] at z; exact ⟨M, z, by omega⟩
          · rw [if_neg hm] at z; exact ⟨2, z, by decide⟩
        · exact ⟨c0.toNat, by rw [(Option.some.inj hk).symm, Int.toNat_of_nonneg c00], by omega⟩
      obtain ⟨c, rfl, hc5⟩ := hc
      have e5 : Ext [p, l] H' H4 := (e3.trans (Ext.weak (.new ht))).trans e4
      have hpd4 : Paired (LsN K H4 [p, l, mv]) vs b := Paired.imp hpd fun _ _ z => z.ext e5 (by simp) P'.lsts
      have hv4 := e5 _ _ (off2 mp ml) hv
      have e6 := e'.trans e5
      generalize hH : H4 = H5 at *
      clear hH e5 e4 e3 hk ht P' hv hpd P3
      -- if way > 3 and state == size - 1
      refine ⟨fun σ H' => ∃ c : Nat, c ≤ 5 ∧ H' = H5 ∧ σ = [some (.ref p), some (.int S), some (.int M), some (.int n), some (.int way), some (.ref mv), some (.int i), some (.int c), y8, y9, y10, y11], ?_, ?_⟩
      · refine ⟨_, rfl, _, _, rfl, rfl, _, rfl, ite2 (fun z => ?_) (fun z => iteF ⟨c, hc5, rfl, rfl⟩)⟩
        refine ⟨_, rfl, _, rfl, _, _, rfl, rfl, rfl, _, rfl, ite2 (fun z => ?_) (fun z => ?_)⟩
        · exact ⟨0, by decide, rfl, rfl⟩
        · exact ⟨c, hc5, rfl, rfl⟩
      · rintro σ Hb ⟨c, hc5, rfl, rfl⟩
        -- told = []
        refine ⟨Nat.zero_le _, fun td htd => ?_⟩
        obtain ⟨tdp, tdl⟩ := P4.off htd
        have tdmv : td ≠ mv := fun z => by rw [z, hv4] at htd; cases htd
        have b0 : Ext [p, l] Hb (upd Hb td (.lst [])) := Ext.weak (.new htd)
        -- for message in ..
        have hmin : ∃ d : Nat, (if (M : Int) < (c : Int) then (M : Int) else (c : Int)) = d ∧ d ≤ M ∧ d ≤ 5 := by
          by_cases hm : (M : Int) < (c : Int)
          · rw [if_pos hm]; exact ⟨M, rfl, Nat.le_refl _, hM⟩
          · rw [if_neg hm]; exact ⟨c, rfl, by omega, hc5⟩
        obtain ⟨d, hd, hdM, hd5⟩ := hmin
        refine ⟨_, rfl, _, rfl, _, rfl, _, _, rfl, p, l, d, by rw [hd]; rfl, P4.put tdp tdl, by omega, fun ms t H6 m1 m2 m3 ht tfree P6 e6' => ?_⟩
        have b1 := b0.trans e6'
        have ttd : t ≠ td := fun z => by rw [z, upd_same] at tfree; cases tfree
        obtain ⟨ttp, ttl⟩ := (P4.put (o := .lst []) tdp tdl).off tfree
        have htd6 : H6 td = some (.lst []) := e6' _ _ (off2 tdp tdl) upd_same
        refine ⟨t, rfl, ⟨_, .of ht⟩, for_list (K := K) (a := t) (xs := ms.map nV) (fun k σ H' => ∃ (ps : List Addr) (tl : State) (y9 y10 : Option V), σ = [some (.ref p), some (.int S), some (.int M), some (.int n), some (.int way), some (.ref mv), some (.int i), some (.int c), some (.ref td), y9, y10, y11] ∧
          H' td = some (.lst (ps.map V.ref)) ∧ Paired (MvV K H') ps tl ∧ tl.map (·.1) = ms.take k ∧ (∀ z ∈ tl, z.2 < n) ∧ H' t = some (.lst (ms.map nV)) ∧ PoolAt H' p l ∧ Ext [p, l] Hb H')
          ⟨[], [], _, _, rfl, htd6, .nil, by simp, (fun z hz => nomatch hz), ht, P6, b1⟩ (fun k σ H' _ ⟨_, _, _, _, _, _, _, _, _, h, _⟩ => .of h) ?_ ?_⟩
        · rintro k v σ H' hv ⟨ps, tl, y9, y10, rfl, htd', hps, hmap, hto, ht', P', e8⟩
          obtain ⟨m, hm, rfl⟩ := map_at hv
          have ntd : td ∉ [p, l] := off2 tdp tdl
          have nt : t ∉ [p, l] := off2 ttp ttl
          refine ⟨_, rfl, _, rfl, p, l, _, rfl, P', by omega, by omega, fun t0 H7 t00 t01 P7 e7 => ?_⟩
          refine ⟨fun σ H8 => ∃ u : Nat, u < n ∧ σ = [some (.ref p), some (.int S), some (.int M), some (.int n), some (.int way), some (.ref mv), some (.int i), some (.int c), some (.ref td), some (nV m), some (.int u), y11] ∧ PoolAt H8 p l ∧ Ext [p, l] H7 H8, ?_, ?_⟩
          · have stay : ∃ u : Nat, u < n ∧ ([some (.ref p), some (.int S), some (.int M), some (.int n), some (.int way), some (.ref mv), some (.int i), some (.int c), some (.ref td), some (nV m), some (.int t0), y11] : L2.St) = [some (.ref p), some (.int S), some (.int M), some (.int n), some (.int way), some (.ref mv), some (.int i), some (.int c), some (.ref td), some (nV m), some (.int u), y11] ∧ PoolAt H7 p l ∧ Ext [p, l] H7 H7 :=
              ⟨t0.toNat, by omega, by rw [Int.toNat_of_nonneg t00], P7, .refl⟩
            refine ⟨_, rfl, _, _, rfl, rfl, _, rfl, ite2 (fun z => ?_) (fun z => iteF stay)⟩
            refine ⟨_, rfl, _, rfl, _, _, rfl, rfl, _, _, rfl, rfl, _, rfl, ite2 (fun z2 => ?_) (fun z2 => stay)⟩
            have z2 := of_decide_eq_true z2
            refine ⟨_, rfl, _, _, rfl, rfl, _, rfl, _, rfl, _, _, rfl, rfl, _, rfl, _, _, rfl, rfl, p, l, _, rfl, P7, by omega, by omega, fun r8 H8 r80 r81 P8 e8 => ⟨_, _, rfl, rfl, ?_⟩⟩
            have eu : (i : Int) + 1 + r8 = ((i + 1 + r8.toNat : Nat) : Int) := by omega
            exact ⟨i + 1 + r8.toNat, by omega, congrArg (fun z : Int => ([some (.ref p), some (.int S), some (.int M), some (.int n), some (.int way), some (.ref mv), some (.int i), some (.int c), some (.ref td), some (nV m), some (.int z), y11] : L2.St)) eu, P8, e8⟩
          · rintro σ H8 ⟨u, hu, rfl, P8, e9⟩
            have e10 := e7.trans e9
            have htd8 := e10 _ _ ntd htd'
            have ht8 := e10 _ _ nt ht'
            have hps8 : Paired (MvV K H8) ps tl := Paired.imp hps fun _ _ z => e10.tup P'.lsts z
            refine ⟨_, rfl, .inl ⟨rfl, _, .of htd8⟩, _, rfl, _, rfl, (by show 2 ≤ sizeLine; decide), fun nt' hnt => ?_⟩
            have e11 : Ext [] H8 (upd H8 nt' (.tup [nV m, .int u])) := .new hnt
            have htd9 := e11.at htd8 (by simp)
            obtain ⟨ntp, ntl⟩ := P8.off hnt
            have tll : tl.length ≤ 6 := by
              have := congrArg List.length hmap
              rw [List.length_map, List.length_take] at this
              omega
            refine ⟨td, _, _, rfl, rfl, htd9, by rw [List.length_map, Paired.len hps]; exact small1000 (by omega), ps ++ [nt'], tl ++ [(m, u)], _, _, rfl, by rw [upd_same, List.map_append]; rfl, ?_, ?_, fun z hz => ?_, ?_, ?_, ?_⟩
            · refine Paired.snoc ?_ (Paired.imp hps8 fun _ _ z => (z.ext0 e11).put htd9)
              exact MvV.put (m := (m, u)) (.of upd_same) htd9
            · rw [List.take_add_one, hm, List.map_append, hmap]
              rfl
            · rcases List.mem_append.mp hz with hz | hz
              · exact hto z hz
              · obtain rfl := List.mem_singleton.mp hz
                exact hu
            · rw [upd_ne ttd]
              exact e11.at ht8 (by simp)
            · exact (P8.put ntp ntl).put tdp tdl
            · exact ((e8.trans e10).trans e11.weak).put' htd
        · rintro σ H7 ⟨ps, tl, y9, y10, rfl, htd7, hps, hmap, hto, ht7, P7, e7⟩
          rw [List.length_map, List.take_length] at hmap
          have tll : tl.length = d := by
            have := congrArg List.length hmap
            rw [List.length_map] at this
            omega
          have sd : StD n M tl := ⟨by omega, by rw [hmap]; exact m1, fun z hz => m3 _ (by rw [← hmap]; exact List.mem_map.mpr ⟨z, hz, rfl⟩), hto⟩
          refine ⟨fun σ H8 => ∃ (ps : List Addr) (tl : State) (y9 y10 y11 : Option V), σ = [some (.ref p), some (.int S), some (.int M), some (.int n), some (.int way), some (.ref mv), some (.int i), some (.int c), some (.ref td), y9, y10, y11] ∧
            H8 td = some (.lst (ps.map V.ref)) ∧ Paired (MvV K H8) ps tl ∧ StD n M tl ∧ PoolAt H8 p l ∧ Ext [p, l] Hb H8, ?_, ?_⟩
          · refine ⟨_, rfl, _, _, rfl, rfl, _, rfl, ite2 (fun z => ?_) (fun z => iteF ⟨ps, tl, _, _, _, rfl, htd7, hps, sd, P7, e7⟩)⟩
            refine ⟨_, rfl, Nat.zero_le _, fun x hx => ?_⟩
            have e8 : Ext [] H7 (upd H7 x (.lst [])) := .new hx
            have htd8 := e8.at htd7 (by simp)
            have hps8 : Paired (MvV K (upd H7 x (.lst []))) ps tl := Paired.imp hps fun _ _ z => z.ext0 e8
            have P8 := P7.ext0 e8
            refine ⟨_, _, .lst (.of htd8) (dp_mvs hps8), .lst (.of upd_same) .nil, shaped_mvs _, by decide, _, rfl, ?_⟩
            rw [eqv_mvs_nil]
            by_cases ee : tl = []
            · rw [decide_eq_true ee]
              exact iteF ⟨ps, tl, _, _, _, rfl, htd8, hps8, sd, P8, e7.trans e8.weak⟩
            · rw [decide_eq_false ee]
              have plen := Paired.len hps
              have tpos : 0 < tl.length := List.length_pos_iff.mpr ee
              refine iteT ⟨_, rfl, _, rfl, td, _, rfl, .inl (.of htd8), p, l, _, rfl, P8, by rw [List.length_map]; omega, by rw [List.length_map]; omega, fun k H9 k0 k1 P9 e9 => ?_⟩
              rw [List.length_map] at k1
              obtain ⟨k, rfl⟩ : ∃ j : Nat, k = (j : Int) := ⟨k.toNat, by omega⟩
              have hk : k < tl.length := by omega
              have hq : tl[k]? = some tl[k] := List.getElem?_eq_getElem hk
              generalize tl[k] = qq at hq
              have htd9 := e9 _ _ (off2 tdp tdl) htd8
              have hps9 : Paired (MvV K H9) ps tl := Paired.imp hps8 fun _ _ z => e9.tup P8.lsts z
              obtain ⟨a, ha, haq⟩ := Paired.get hps9 hq
              refine ⟨_, rfl, _, rfl, td, _, _, _, rfl, rfl, .of htd9, atI_nat (at_map ha), a, _, _, _, rfl, rfl, haq, atI_nat (j := 0) rfl, ?_⟩
              refine ⟨fun v H' => H' = H9 ∧ ∃ u : Nat, u < n ∧ v = .int u, ?_, ?_⟩
              · refine ⟨_, rfl, _, _, rfl, rfl, _, rfl, ite2 (fun z => ?_) (fun z => ?_)⟩
                · refine ⟨_, rfl, _, _, rfl, rfl, .inl ⟨_, rfl, _, rfl, _, _, rfl, rfl, (by show (0 : Int) < n; omega), rfl, (((i : Int) + 1) % n).toNat, ?_, ?_⟩⟩
                  · have := Int.emod_lt_of_pos ((i : Int) + 1) (show (0 : Int) < n by omega)
                    have := Int.emod_nonneg ((i : Int) + 1) (show (n : Int) ≠ 0 by omega)
                    omega
                  · show V.int (((i : Int) + 1) % n) = _
                    rw [Int.toNat_of_nonneg (Int.emod_nonneg _ (by omega))]
                · refine ⟨_, rfl, _, _, rfl, rfl, _, rfl, _, _, rfl, rfl, _, _, rfl, rfl, ?_⟩
                  by_cases hm : (n : Int) - 1 < (i : Int) + 1
                  · rw [if_pos hm]
                    exact ⟨n - 1, by omega, congrArg V.int (by omega)⟩
                  · rw [if_neg hm]
                    exact ⟨i + 1, by omega, rfl⟩
              · rintro v H' ⟨rfl, u, hu, rfl⟩
                refine ⟨(by show 2 ≤ sizeLine; decide), fun nt hnt => ?_⟩
                have e10 : Ext [] H' (upd H' nt (.tup [.int qq.1, .int u])) := .new hnt
                have htd10 := e10.at htd9 (by simp)
                obtain ⟨ntp, ntl⟩ := P9.off hnt
                refine ⟨_, rfl, _, rfl, td, _, _, k, rfl, rfl, htd10, ixNat (by rw [List.length_map]; omega), ps.set k nt, tl.set k (qq.1, u), _, _, _, rfl, ?_, ?_, sd.set hq hu, (P9.put ntp ntl).put tdp tdl, ((((e7.trans e8.weak).trans e9).trans e10.weak)).put' htd⟩
                · rw [upd_same, List.map_set]
                · refine Paired.set ?_ k (Paired.imp hps9 fun _ _ z => (z.ext0 e10).put htd10)
                  exact MvV.put (m := (qq.1, u)) (.of upd_same) htd10
          · rintro σ H8 ⟨ps, tl, y9, y10, y11, rfl, htd8, hps8, sd8, P8, e8⟩
            have hmv8 := e8 _ _ (off2 mp ml) hv4
            have hpd8 : Paired (LsN K H8 [p, l, mv]) vs b := Paired.imp hpd4 fun _ _ z => z.ext e8 (by simp) P4.lsts
            have l3 : Lsts [mv] H8 := one_lst hmv8
            refine ⟨_, rfl, .inl ⟨rfl, _, .of hmv8⟩, _, rfl, mv, _, _, rfl, rfl, hmv8, by rw [Paired.len hpd8]; exact small1000 (by omega), vs ++ [.ref td], b ++ [tl], _, _, _, _, _, _, rfl, by rw [List.length_append, hbl]; rfl, upd_same, ?_, fun s hs => ?_, P8.put mp ml, (e6.trans e8).put' fmv⟩
            · refine Paired.snoc ⟨td, ps, rfl, ?_, by rw [upd_ne tdmv]; exact htd8, Paired.imp hps8 fun _ _ z => z.put hmv8⟩ (Paired.imp hpd8 fun _ _ z => z.ext (Y := [mv]) (.wr (by simp)) (by simp) l3)
              simp [tdp, tdl, tdmv]
            · rcases List.mem_append.mp hs with hs | hs
              · exact hst s hs
              · obtain rfl := List.mem_singleton.mp hs
                exact sd8
    · rintro σ H' ⟨vs, b, y6, y7, y8, y9, y10, y11, rfl, hbl, hv, hpd, hst, P', e'⟩
      rw [Int.toNat_natCast] at hbl
      have hlb : LbV K H' (.ref mv) b := ⟨mv, vs, rfl, hv, Paired.imp hpd fun _ _ z => z.ls⟩
      have sd : ∀ s, StD n M (mvs b s) := fun s => by
        by_cases hs : s < b.length
        · exact hst _ (mvs_mem hs)
        · rw [mvs_out (by omega)]
          exact ⟨Nat.zero_le _, .nil, (fun z hz => nomatch hz), fun z hz => nomatch hz⟩
      refine ⟨_, rfl, .ref mv, b, rfl, hlb, by omega, by omega, fun s => ⟨Nat.le_trans (sd s).few (by omega), fun z hz => by rw [hbl]; exact (sd s).to z hz⟩, fun F v H3 mt hbk e3 => ?_⟩
      have ok := mt.okB (by omega) fun s hs => ⟨Nat.le_trans (sd s).few hM, (sd s).rise, (sd s).msg⟩
      refine q _ v _ ok (by rw [rename_len]; have := nodup_le mt.nd mt.lt; omega) (fun s hs => ?_) hbk (P'.ext0 e3) (e'.trans e3.weak)
      obtain ⟨x, _, rfl⟩ := List.mem_map.mp hs
      rw [List.length_map]
      exact (sd x).few
end
end Nv
set_option Elab.async false
set_option linter.all false
set_option maxRecDepth 100000
namespace Nv
open PySem PySem.Spec PyProof.Rows L2
section
variable {P : Program} {w : World} {K : PySem.W.Frag} {mg : Str → Option Value} {base : Heap}
/-! ### the program: books held -/
theorem notF {c : Bool} {A B : Prop} (h : c = true) (hb : B) : if (!c) = true then A else B := by
  rw [h]
  exact iteF hb
theorem sc_has_state_form : FnScope ["thing", "many", "last", "pair", "message", "to"] ["thing", "many"] (defScope s_has_state_form) := ⟨rfl, rfl, rfl, by decide +kernel, rfl, by decide +kernel, by decide +kernel⟩
def sp_has_state_form (K : PySem.W.Frag) : Sp := fun vs H Q _ => ∃ (v : V) (s : State) (n : Nat), vs = [v, .int n] ∧ StV K H v s ∧ StOk n s ∧ Q (.bl true) H
theorem ok_has_state_form (T : Tx K mg) : FnOk P w K mg base CX0 3 T.has_state_form.f T.has_state_form.fd ["thing", "many"] (sp_has_state_form K) := by
  refine T.has_state_form.F.ok sc_has_state_form (fun vs H Q E h => ?_) (fun cdv A outer s H vs Q E hr h => ?_)
  · obtain ⟨v, s, n, rfl, _⟩ := h; rfl
  · obtain ⟨v, st, n, rfl, ⟨a, ps, rfl, ha, hps⟩, ok, q⟩ := h
    have plen := Paired.len hps
    refine ⟨_, (pss_cons (ps_if (pt_not (pt_val (pe_call (ok_tuple_within T) (hr.mono (by decide)) (by rfl) T.tuple_within.g T.tuple_within.F.kp T.tuple_within.b .nil pass0 (pa_cons (pv 0) (pa_cons pe_int (pa_cons (pe_glob (v := .int 5) (by rfl) T.c_MOST_MESSAGES.choose_spec ⟨_, rfl⟩) pa_nil))))))
        (pss_one (ps_ret pe_bl))
        pss_nil)
      (pss_cons (ps_set (i := 2) sc_has_state_form.nd rfl (.inl rfl) (pe_un un_neg pe_int))
      (pss_cons (ps_for PassesOwn.never rfl (pi_tup (pv 0)) (pg_name (i := 3) sc_has_state_form.nd rfl (.inl rfl))
        (pss_cons (ps_if (pt_not (pt_val (pe_call (ok_tuple_within T) (hr.mono (by decide)) (by rfl) T.tuple_within.g T.tuple_within.F.kp T.tuple_within.b .nil pass0 (pa_cons (pv 3) (pa_cons pe_int (pa_cons pe_int pa_nil))))))
          (pss_one (ps_ret pe_bl))
          pss_nil)
        (pss_cons (ps_asg (pv 3) (pg_tup rfl (pgs_cons (pg_name (i := 4) sc_has_state_form.nd rfl (.inl rfl)) (pgs_cons (pg_name (i := 5) sc_has_state_form.nd rfl (.inl rfl)) pgs_nil))))
        (pss_cons (ps_if (PW.pt (pw_or (pt_not (pt_val (pe_call (ok_whole_within T) (hr.mono (by decide)) (by rfl) T.whole_within.g T.whole_within.F.kp T.whole_within.b .nil pass0 (pa_cons (pv 4) (pa_cons (pe_op op_add (pv 2) pe_int) (pa_cons (pe_glob (v := .int 99) (by rfl) T.c_GREATEST_MESSAGE.choose_spec ⟨_, rfl⟩) pa_nil)))))) (pw_or1 (pt_not (pt_val (pe_call (ok_whole_within T) (hr.mono (by decide)) (by rfl) T.whole_within.g T.whole_within.F.kp T.whole_within.b .nil pass0 (pa_cons (pv 5) (pa_cons pe_int (pa_cons (pe_op op_sub (pv 1) pe_int) pa_nil)))))))))
          (pss_one (ps_ret pe_bl))
          pss_nil)
        (pss_one (ps_set (i := 2) sc_has_state_form.nd rfl (.inl rfl) (pv 4)))))))
      (pss_one (ps_ret pe_bl))))), ?_⟩
    refine ⟨_, rfl, a, _, 0, 5, rfl, ha.sq, SqT.ty ha.sq, _, rfl, notF (decide_eq_true ⟨by omega, ?_⟩) ?_⟩
    · rw [List.length_map, plen]
      have := ok.few
      omega
    refine ⟨1, rfl, _, rfl, a, rfl, ⟨_, ha.sq⟩, for_tup (K := K) (a := a) (xs := ps.map V.ref) (fun k σ H' => H' = H ∧ ∃ (z : Int) (y3 y4 y5 : Option V), σ = [some (.ref a), some (.int n), some (.int z), y3, y4, y5] ∧ ∀ j q, k ≤ j → st[j]? = some q → z < (q.1 : Int))
      ⟨rfl, -1, _, _, _, rfl, fun j q _ _ => by omega⟩ (fun k σ H' _ ⟨e, _⟩ => by rw [e]; exact ha.sq) ?_ ?_⟩
    · rintro k v σ H' hv ⟨rfl, z, y3, y4, y5, rfl, hz⟩
      obtain ⟨c, hc, rfl⟩ := map_at hv
      obtain ⟨p, hp, hcp⟩ := Paired.get' hps hc
      have hm := List.mem_of_getElem? hp
      refine ⟨_, rfl, c, _, 2, 2, rfl, hcp, SqT.ty hcp, _, rfl, notF (by show decide ((2 : Int) ≤ 2 ∧ (2 : Int) ≤ 2) = true; decide) ?_⟩
      refine ⟨_, rfl, c, _, rfl, hcp, rfl, _, _, rfl, _, _, rfl, rfl, ?_⟩
      have b1 := hz k p (Nat.le_refl _) hp
      have b2 := ok.msg p hm
      have b3 := ok.to p hm
      refine ⟨_, rfl, _, rfl, _, _, rfl, rfl, _, _, _, rfl, _, rfl, notF (decide_eq_true ⟨by omega, by omega⟩) ?_⟩
      refine ⟨_, rfl, _, rfl, _, _, rfl, rfl, _, _, _, rfl, _, rfl, notF (decide_eq_true ⟨by omega, by omega⟩) ?_⟩
      refine ⟨_, rfl, rfl, _, _, _, _, rfl, fun j q hj hq => ?_⟩
      obtain ⟨hk, ek⟩ := List.getElem?_eq_some_iff.mp hp
      obtain ⟨hj2, ej⟩ := List.getElem?_eq_some_iff.mp hq
      have := List.pairwise_iff_getElem.mp ok.rise k j (by rw [List.length_map]; exact hk) (by rw [List.length_map]; exact hj2) (by omega)
      rw [List.getElem_map, List.getElem_map, ek, ej] at this
      omega
    · rintro σ H' ⟨rfl, z, y3, y4, y5, rfl, hz⟩
      exact q
theorem sc_check_form : FnScope ["thing", "state"] ["thing"] (defScope s_check_form) := ⟨rfl, rfl, rfl, by decide +kernel, rfl, by decide +kernel, by decide +kernel⟩
def sp_check_form (K : PySem.W.Frag) : Sp := fun vs H Q _ => ∃ (v : V) (b : Book), vs = [v] ∧ BkV K H v b ∧ FormB b ∧ Q .non H
theorem ok_check_form (T : Tx K mg) : FnOk P w K mg base CX0 4 T.check_form.f T.check_form.fd ["thing"] (sp_check_form K) := by
  refine T.check_form.F.ok sc_check_form (fun vs H Q E h => ?_) (fun cdv A outer s H vs Q E hr h => ?_)
  · obtain ⟨v, b, rfl, _⟩ := h; rfl
  · obtain ⟨v, b, rfl, ⟨a, ls, rfl, ha, hls⟩, ok, q⟩ := h
    have llen := Paired.len hls
    refine ⟨_, (pss_cons (ps_if (pt_not (pt_val (pe_call (ok_tuple_within T) (hr.mono (by decide)) (by rfl) T.tuple_within.g T.tuple_within.F.kp T.tuple_within.b .nil pass0 (pa_cons (pv 0) (pa_cons pe_int (pa_cons (pe_glob (v := .int 8) (by rfl) T.c_MOST_STATES.choose_spec ⟨_, rfl⟩) pa_nil))))))
        (pss_one ps_never)
        pss_nil)
      (pss_one (ps_for PassesOwn.never rfl (pi_range1 (by rfl) T.n_range (pa_cons (pe_callB call_len_seq (by rfl) T.n_len PySem.boot_len (pa_cons (pv 0) pa_nil)) pa_nil)) (pg_name (i := 1) sc_check_form.nd rfl (.inl rfl))
        (pss_one (ps_if (pt_not (pt_val (pe_call (ok_has_state_form T) (hr.mono (by decide)) (by rfl) T.has_state_form.g T.has_state_form.F.kp T.has_state_form.b .nil pass0 (pa_cons (pe_ix ix_tup (pv 0) (pv 1) (fun _ _ => rfl)) (pa_cons (pe_callB call_len_seq (by rfl) T.n_len PySem.boot_len (pa_cons (pv 0) pa_nil)) pa_nil)))))
          (pss_one ps_never)
          pss_nil))))), ?_⟩
    refine ⟨_, rfl, a, _, 1, 8, rfl, ha, SqT.ty ha, _, rfl, notF (decide_eq_true ?_) ?_⟩
    · have h1 := ok.one
      have h2 := ok.eight
      rw [llen]
      exact ⟨by omega, by omega⟩
    have h2 := ok.eight
    refine ⟨_, rfl, a, _, rfl, .inr ha, _, rfl, by omega, by omega, for_range (lo := 0) (n := _) (fun k σ H' => H' = H ∧ ∃ y : Option V, σ = [some (.ref a), y]) ⟨rfl, _, rfl⟩ ?_ ?_⟩
    · rintro k σ H' hk ⟨rfl, y, rfl⟩
      simp only [Int.zero_add]
      rw [Int.toNat_natCast] at hk
      obtain ⟨u, hu, hst⟩ := Paired.get hls (mvs_lt (b := b) (s := k) (by omega))
      refine ⟨_, rfl, _, rfl, a, _, _, _, rfl, rfl, ha, atI_nat hu, _, rfl, a, _, rfl, .inr ha, u, _, b.length, by rw [llen]; rfl, hst, ok.ok (by omega), _, rfl, notF rfl ⟨rfl, _, rfl⟩⟩
    · rintro σ H' ⟨rfl, y, rfl⟩
      exact q
theorem sc_first_rows : FnScope ["states", "start", "rows", "order", "done", "state", "message", "to"] ["states", "start"] (defScope s_first_rows) := ⟨rfl, rfl, rfl, by decide +kernel, rfl, by decide +kernel, by decide +kernel⟩
def sp_first_rows (K : PySem.W.Frag) : Sp := fun vs H Q _ => ∃ (v : V) (b : Book), vs = [v, .int 0] ∧ BkW K H v b ∧ FormB b ∧ ∀ (F : List Nat) (kvs : List (Key × V)) (d : Addr) (H' : Hp), Met b F → kvs.map (·.1) = F.map kN → H' d = some (.dK kvs) → Ext [] H H' → Q (.ref d) H'
theorem ok_first_rows (T : Tx K mg) : FnOk P w K mg base CX0 1 T.first_rows.f T.first_rows.fd ["states", "start"] (sp_first_rows K) := by
  refine T.first_rows.F.ok sc_first_rows (fun vs H Q E h => ?_) (fun cdv A outer s H vs Q E hr h => ?_)
  · obtain ⟨v, b, rfl, _⟩ := h; rfl
  · obtain ⟨v, b, rfl, ⟨a, ls, rfl, ha, hls⟩, ok, q⟩ := h
    have llen := Paired.len hls
    have h8 := ok.eight
    refine ⟨_, (pss_cons (ps_set (i := 2) sc_first_rows.nd rfl (.inl rfl) (pe_disp (pps_cons (pv 1) (pe_tup pa_nil) pps_nil) (by rfl) (by rfl) (fun z => by cases z) (by decide)))
      (pss_cons (ps_set (i := 3) sc_first_rows.nd rfl (.inl rfl) (pe_lst (pa_cons (pv 1) pa_nil)))
      (pss_cons (ps_set (i := 4) sc_first_rows.nd rfl (.inl rfl) pe_int)
      (pss_cons (ps_while PassesOwn.never (pt_cmpR op_lt (pv 4) (pe_callB call_len_seq (by rfl) T.n_len PySem.boot_len (pa_cons (pv 3) pa_nil)) (nomark _))
        (pss_cons (ps_set (i := 5) sc_first_rows.nd rfl (.inl rfl) (pe_ix ix_list (pv 3) (pv 4) (fun _ _ => rfl)))
        (pss_cons (ps_aug (i := 4) sc_first_rows.nd rfl (.inl rfl) pe_int ip_add)
        (pss_one (ps_for PassesOwn.never rfl (pi_tup (pe_ix ix_tup (pv 0) (pv 5) (fun _ _ => rfl))) (pg_tup rfl (pgs_cons (pg_name (i := 6) sc_first_rows.nd rfl (.inl rfl)) (pgs_cons (pg_name (i := 7) sc_first_rows.nd rfl (.inl rfl)) pgs_nil)))
          (pss_one (ps_if (pt_cmp (pc_dnotin (hu_of hr) (pv 7) (pv 2)))
            (pss_cons (ps_dput (hu_of hr) (pv 2) (pv 7) (pe_op op_catA (pe_dget (hu_of hr) (pv 2) (pv 5) (fun _ _ => rfl)) (pe_tup (pa_cons (pv 6) pa_nil))) rfl)
            (pss_one (ps_expr (pe_bm PySem.F.plainAttrs_list PySem.F.slot_list_append PySem.F.type_list_append mt_append (pv 3) (pa_cons (pv 7) pa_nil)))))
            pss_nil)))))))
      (pss_one (ps_ret (pv 2))))))), ?_⟩
    -- rows = {0: ()}
    refine fun d hd => ⟨_, rfl, Nat.zero_le _, fun t ht => ?_⟩
    have e1 : Ext [] H (upd H d (.dK [])) := .new hd
    have e2 := e1.trans (Ext.new (L := []) (o := .tup []) ht)
    have dt : d ≠ t := fun z => by rw [← z, upd_same] at ht; cases ht
    refine ⟨by rw [upd_ne dt, upd_same], [(kN 0, .ref t)], rfl, (by show 1 ≤ 15; decide), ?_⟩
    have e3 := e2.put (o := .dK (mergeK [] [(kN 0, .ref t)])) hd
    have hd3 : upd (upd (upd H d (.dK [])) t (.tup [])) d (.dK (mergeK [] [(kN 0, .ref t)])) d = some (.dK [(kN 0, .ref t)]) := upd_same
    have ht3 : upd (upd (upd H d (.dK [])) t (.tup [])) d (.dK (mergeK [] [(kN 0, .ref t)])) t = some (.tup []) := by rw [upd_ne dt.symm, upd_same]
    generalize upd (upd (upd H d (.dK [])) t (.tup [])) d (.dK (mergeK [] [(kN 0, .ref t)])) = H3 at *
    -- order = [0]
    refine ⟨_, rfl, (by show 1 ≤ sizeLine; decide), fun o ho => ?_⟩
    have ho0 : H o = none := e3.free ho
    have od : d ≠ o := ne_of_none hd3 ho
    have e4 := e3.put2 (o := .lst [.int 0]) ho
    -- the loop
    let Row : Hp → Nat → V → Prop := fun H' m v => ∃ (x : Addr) (xs : List V), v = .ref x ∧ SqT K H' x xs ∧ xs.length ≤ m
    refine ⟨fun m σ H' => ∃ (F : List Nat) (kvs : List (Key × V)) (i : Nat) (y4 y5 y6 : Option V), σ = [some (.ref a), some (.int 0), some (.ref d), some (.ref o), some (.int i), y4, y5, y6] ∧ MetI b F i ∧ m = b.length - i ∧ H' o = some (.lst (F.map nV)) ∧ H' d = some (.dK kvs) ∧ kvs.map (·.1) = F.map kN ∧ (∀ e ∈ kvs, Row H' F.length e.2) ∧ Ext [] H H',
      ⟨_, [0], [(kN 0, .ref t)], 0, _, _, _, rfl, .first ok.one, rfl, upd_same, by rw [upd_ne od]; exact hd3, rfl, fun e he => ?_, e4⟩, ?_⟩
    · obtain rfl := List.mem_singleton.mp he
      have ot : t ≠ o := ne_of_none ht3 ho
      exact ⟨t, [], rfl, .of (by rw [upd_ne ot]; exact ht3), Nat.zero_le _⟩
    rintro m σ H' ⟨F, kvs, i, y4, y5, y6, rfl, mi, rfl, hF, hD, hk, hrow, e⟩
    have Fle : F.length ≤ b.length := nodup_le mi.nd mi.lt
    refine ⟨_, rfl, _, rfl, o, _, rfl, .inl (.of hF), _, _, rfl, rfl, _, rfl, ite2 (fun z => ?_) (fun z => ?_)⟩
    · have z := of_decide_eq_true z
      rw [List.length_map] at z
      have hiF : i < F.length := by omega
      have hs : F[i]? = some F[i] := List.getElem?_eq_getElem hiF
      generalize F[i] = x at hs
      have hx : x < b.length := mi.lt x (List.mem_of_getElem? hs)
      obtain ⟨u, hu, c, ps, rfl, hc, hps⟩ := Paired.get hls (mvs_lt hx)
      have plen := Paired.len hps
      refine ⟨fun σ H' => ∃ (F : List Nat) (kvs : List (Key × V)) (y4 y5 y6 : Option V), σ = [some (.ref a), some (.int 0), some (.ref d), some (.ref o), some (.int (i + 1 : Nat)), y4, y5, y6] ∧ MetI b F (i + 1) ∧ H' o = some (.lst (F.map nV)) ∧ H' d = some (.dK kvs) ∧ kvs.map (·.1) = F.map kN ∧ (∀ e ∈ kvs, Row H' F.length e.2) ∧ Ext [] H H', ?_, ?_⟩
      · rintro σ' H' ⟨F, kvs, y4, y5, y6, rfl, mi, r⟩
        exact ⟨b.length - (i + 1), by omega, F, kvs, i + 1, _, _, _, rfl, mi, rfl, r⟩
      refine ⟨_, rfl, _, rfl, o, _, _, _, rfl, rfl, .of hF, atI_nat (at_map hs), ?_⟩
      refine ⟨_, rfl, _, _, rfl, rfl, ?_⟩
      refine ⟨_, rfl, _, rfl, a, _, _, _, rfl, rfl, e.tup Lsts.nil ha, atI_nat hu, c, rfl, ⟨_, (e.tup Lsts.nil hc)⟩, ?_⟩
      refine for_tup (K := K) (a := c) (xs := ps.map V.ref) (fun k σ H' => ∃ (F : List Nat) (kvs : List (Key × V)) (y5 y6 : Option V), σ = [some (.ref a), some (.int 0), some (.ref d), some (.ref o), some (.int ((i : Int) + 1)), some (nV x), y5, y6] ∧ MetW b F i x k ∧ H' o = some (.lst (F.map nV)) ∧ H' d = some (.dK kvs) ∧ kvs.map (·.1) = F.map kN ∧ (∀ e ∈ kvs, Row H' F.length e.2) ∧ Ext [] H H')
        ⟨F, kvs, _, _, rfl, mi.begin hs, hF, hD, hk, hrow, e⟩ (fun k σ H' _ ⟨_, _, _, _, _, _, _, _, _, _, e⟩ => (e.tup Lsts.nil hc)) ?_ ?_
      · rintro k v σ H' hv ⟨F, kvs, y5, y6, rfl, mw, hF, hD, hk, hrow, e⟩
        obtain ⟨g, hg, rfl⟩ := map_at hv
        obtain ⟨p, hp, hcp⟩ := Paired.get' hps hg
        have hcp := hcp.ext0 e
        have Fle : F.length ≤ b.length := nodup_le mw.nd mw.lt
        have pb : p.2 < b.length := ok.to (List.mem_of_getElem? hp)
        refine ⟨g, _, rfl, hcp, rfl, _, _, rfl, _, _, rfl, rfl, ?_⟩
        refine ⟨_, rfl, _, rfl, d, _, rfl, DGet.k (k := kN p.2) hD, _, rfl, ?_⟩
        rw [valV_key hk]
        by_cases hin : p.2 ∈ F
        · rw [decide_eq_true hin]
          exact iteF ⟨F, kvs, _, _, rfl, mw.skip hp hin, hF, hD, hk, hrow, e⟩
        · rw [decide_eq_false hin]
          refine iteT ?_
          -- rows[state] + (message,)
          have xin : x ∈ F := List.mem_of_getElem? mw.here
          have hsome : (valV kvs (kN x)).isSome = true := by rw [valV_key hk]; exact decide_eq_true xin
          obtain ⟨rv, hrv⟩ := Option.isSome_iff_exists.mp hsome
          obtain ⟨r, rs, er, hr1, hr2⟩ := hrow _ (valV_mem hrv)
          have er : rv = .ref r := er
          subst er
          have newk : valV kvs (kN p.2) = none := by
            have := valV_key hk p.2
            rw [decide_eq_false hin] at this
            cases h : valV kvs (kN p.2) with
            | none => rfl
            | some z => rw [h] at this; cases this
          have klen : kvs.length = F.length := by have := congrArg List.length hk; simpa using this
          -- behind the new row: the dict, the list
          have fin : ∀ (nr : Addr) (ys : List V) (H4 : Hp), Ext [] H' H4 → SqT K H4 nr ys → ys.length ≤ F.length + 1 → ∃ H5, DPut H4 d (.int p.2) (.ref nr) H5 ∧
              ∃ q5 : H5 = upd H4 d (.dK (kvs ++ [(kN p.2, .ref nr)])), H5 o = some (.lst (F.map nV)) ∧ H5 d = some (.dK (kvs ++ [(kN p.2, .ref nr)])) ∧ (∀ e ∈ kvs ++ [(kN p.2, .ref nr)], Row H5 (F.length + 1) e.2) ∧ Ext [] H H5 := by
            intro nr ys H4 e4 hn hl
            have hD4 := e4.at hD (by simp)
            have hF4 := e4.at hF (by simp)
            refine ⟨_, DPut.k (k := kN p.2) hD4 (small1000 (by omega)), by rw [putK_new _ newk], ?_⟩
            rw [putK_new _ newk]
            have ee : Ext [d] H4 (upd H4 d (.dK (kvs ++ [(kN p.2, .ref nr)]))) := .wr (by simp)
            refine ⟨by rw [upd_ne od.symm]; exact hF4, upd_same, fun z hz => ?_, (e.trans e4).put hd⟩
            rcases List.mem_append.mp hz with hz | hz
            · obtain ⟨x, xs, h1, h2, h3⟩ := hrow z hz
              exact ⟨x, xs, h1, ee.tup (one_dk hD4) (e4.tup Lsts.nil h2), by omega⟩
            · obtain rfl := List.mem_singleton.mp hz
              exact ⟨nr, ys, rfl, ee.tup (one_dk hD4) hn, hl⟩
          have last : ∀ (nr : Addr) (H5 : Hp), H5 o = some (.lst (F.map nV)) → H5 d = some (.dK (kvs ++ [(kN p.2, .ref nr)])) → (∀ e ∈ kvs ++ [(kN p.2, .ref nr)], Row H5 (F.length + 1) e.2) → Ext [] H H5 →
              ∃ (F' : List Nat) (kvs' : List (Key × V)) (y5 y6 : Option V), [some (.ref a), some (.int 0), some (.ref d), some (.ref o), some (.int ((i : Int) + 1)), some (nV x), some (.int p.1), some (.int p.2)] = [some (.ref a), some (.int 0), some (.ref d), some (.ref o), some (.int ((i : Int) + 1)), some (nV x), y5, y6] ∧
                MetW b F' i x (k + 1) ∧ upd H5 o (.lst (F.map nV ++ [.int p.2])) o = some (.lst (F'.map nV)) ∧ upd H5 o (.lst (F.map nV ++ [.int p.2])) d = some (.dK kvs') ∧ kvs'.map (·.1) = F'.map kN ∧ (∀ e ∈ kvs', Row (upd H5 o (.lst (F.map nV ++ [.int p.2]))) F'.length e.2) ∧ Ext [] H (upd H5 o (.lst (F.map nV ++ [.int p.2]))) := by
            intro nr H5 h1 h2 h3 h4
            refine ⟨F ++ [p.2], kvs ++ [(kN p.2, .ref nr)], _, _, rfl, mw.push hp hin pb, by rw [upd_same, List.map_append]; rfl, by rw [upd_ne od]; exact h2, by rw [List.map_append, List.map_append, hk]; rfl, fun z hz => ?_, h4.put ho0⟩
            obtain ⟨x, xs, g1, g2, g3⟩ := h3 z hz
            exact ⟨x, xs, g1, Ext.tup (L := [o]) (.wr (by simp)) (one_lst h1) g2, by rw [List.length_append]; exact g3⟩
          refine ⟨_, rfl, _, rfl, d, _, rfl, by rw [← hrv]; exact DGet.k (k := kN x) hD, _, rfl, (by show 1 ≤ sizeLine; decide), fun g2 hg2 => ?_⟩
          have e5 : Ext [] H' (upd H' g2 (.tup [.int p.1])) := .new hg2
          refine ⟨r, g2, rs, _, rfl, rfl, e5.tup Lsts.nil hr1, .of upd_same, ?_, fun h0 => ?_, fun _ h0 => (by cases h0), fun _ _ g3 hg3 => ?_⟩
          · show rs.length + 1 ≤ sizeLine
            exact Nat.le_of_lt (small1000 (by omega))
          · obtain ⟨H5, dp, _, f1, f2, f3, f4⟩ := fin g2 [.int p.1] _ e5 (.of upd_same) (by simp)
            refine ⟨_, rfl, _, rfl, d, H5, rfl, dp, ?_⟩
            exact ⟨_, rfl, .inl ⟨rfl, _, .of f1⟩, _, rfl, o, _, _, rfl, rfl, f1, by rw [List.length_map]; exact small1000 (by omega), last g2 H5 f1 f2 f3 f4⟩
          · obtain ⟨H5, dp, _, f1, f2, f3, f4⟩ := fin g3 (rs ++ [.int p.1]) _ (e5.put2 hg3) (.of upd_same) (by rw [List.length_append]; show rs.length + 1 ≤ _; omega)
            refine ⟨_, rfl, _, rfl, d, H5, rfl, dp, ?_⟩
            exact ⟨_, rfl, .inl ⟨rfl, _, .of f1⟩, _, rfl, o, _, _, rfl, rfl, f1, by rw [List.length_map]; exact small1000 (by omega), last g3 H5 f1 f2 f3 f4⟩
      · rintro σ H' ⟨F, kvs, y5, y6, rfl, mw, hF, hD, hk, hrow, e⟩
        exact ⟨F, kvs, _, _, _, by rw [Int.natCast_add]; rfl, mw.done (by rw [List.length_map, plen]; exact Nat.le_refl _), hF, hD, hk, hrow, e⟩
    · have z : ¬ ((i : Int) < ((F.map nV).length : Int)) := fun y => z (decide_eq_true y)
      rw [List.length_map] at z
      have := mi.le
      exact ⟨_, rfl, q F kvs d H' (mi.met (.inl (by omega))) hk hD e⟩
theorem Met.all {b : Book} {F : List Nat} (m : Met b F) {s : Nat} (h : Rch b s) : s ∈ F := by
  induction h with
  | zero => exact List.mem_of_getElem? m.zero
  | step _ hp ih => exact m.cl _ ih _ hp
theorem sc_made_book : FnScope ["thing", "reached", "state"] ["thing"] (defScope s_made_book) := ⟨rfl, rfl, rfl, by decide +kernel, rfl, by decide +kernel, by decide +kernel⟩
def sp_made_book (K : PySem.W.Frag) : Sp := fun vs H Q _ => ∃ (v : V) (b : Book), vs = [v] ∧ BkV K H v b ∧ OkB b ∧ ∀ H', Ext [] H H' → Q v H'
theorem ok_made_book (T : Tx K mg) : FnOk P w K mg base CX0 5 T.made_book.f T.made_book.fd ["thing"] (sp_made_book K) := by
  refine T.made_book.F.ok sc_made_book (fun vs H Q E h => ?_) (fun cdv A outer s H vs Q E hr h => ?_)
  · obtain ⟨v, b, rfl, _⟩ := h; rfl
  · obtain ⟨v, b, rfl, hb, ok, q⟩ := h
    refine ⟨_, (pss_cons (ps_expr (pe_call (ok_check_form T) (hr.mono (by decide)) (by rfl) T.check_form.g T.check_form.F.kp T.check_form.b .nil pass0 (pa_cons (pv 0) pa_nil)))
      (pss_cons (ps_set (i := 1) sc_made_book.nd rfl (.inl rfl) (pe_call (ok_first_rows T) (hr.mono (by decide)) (by rfl) T.first_rows.g T.first_rows.F.kp T.first_rows.bD.choose_spec.2 T.first_rows.bD.choose_spec.1 pass0 (pa_cons (pv 0) pa_nil)))
      (pss_cons (ps_for PassesOwn.never rfl (pi_range1 (by rfl) T.n_range (pa_cons (pe_callB call_len_seq (by rfl) T.n_len PySem.boot_len (pa_cons (pv 0) pa_nil)) pa_nil)) (pg_name (i := 2) sc_made_book.nd rfl (.inl rfl))
        (pss_one (ps_if (pt_cmp (pc_dnotin (hu_of hr) (pv 2) (pv 1)))
          (pss_one ps_never)
          pss_nil)))
      (pss_one (ps_ret (pv 0)))))), ?_⟩
    refine ⟨_, rfl, v, b, rfl, hb, ok.toFormB, ?_⟩
    refine ⟨_, rfl, v, b, rfl, hb.wk, ok.toFormB, fun F kvs d H' mt hk hd e => ?_⟩
    obtain ⟨a, ls, rfl, ha, hls⟩ := hb
    have llen := Paired.len hls
    have h8 := ok.eight
    refine ⟨_, rfl, a, _, rfl, .inr (e.tup Lsts.nil ha), _, rfl, by omega, by omega, for_range (lo := 0) (n := _) (fun k σ H2 => H2 = H' ∧ ∃ y : Option V, σ = [some (.ref a), some (.ref d), y]) ⟨rfl, _, rfl⟩ ?_ ?_⟩
    · rintro k σ H2 hk' ⟨rfl, y, rfl⟩
      simp only [Int.zero_add]
      rw [Int.toNat_natCast] at hk'
      refine ⟨_, rfl, _, rfl, d, _, rfl, DGet.k (k := kN k) hd, _, rfl, ?_⟩
      rw [valV_key hk, decide_eq_true (mt.all (ok.reach k (by omega)))]
      exact iteF ⟨rfl, _, rfl⟩
    · rintro σ H2 ⟨rfl, y, rfl⟩
      exact ⟨_, rfl, q _ e⟩
end
end Nv
set_option Elab.async false
set_option linter.all false
set_option maxRecDepth 100000
namespace Nv
open PySem PySem.Spec PyProof.Rows L2
/-! ### comprehensions of some forms -/
abbrev LcEnd (g : TG) (tt : TT) (te : TE) (vs : List Nat) (σ : L2.St) (D : Addr) (J : It) (H1 : Hp) (Qd : Hp → Prop) : Prop := ∃ W : Nat → Nat → Hp → Prop, (∃ m, W 0 m (upd H1 D (.lst []))) ∧ ∀ i m H, W i m H →
  (J.stop i H ∧ Qd H) ∨ (J.go i H ∧ ∃ Nx : Hp → Prop, (∀ H', Nx H' → ∃ m', m' < m ∧ W (i + 1) m' H') ∧ ∀ x H', J.yld i H x H' → g x (wipe σ vs) H' fun σ2 H2 => wipe σ2 vs = wipe σ vs ∧ tt σ2 H2 fun b H3 =>
    if b = true then te σ2 H3 fun y H4 => ∃ acc, H4 D = some (.lst acc) ∧ acc.length < sizeLine ∧ Nx (upd H4 D (.lst (acc ++ [y]))) else Nx H3)
theorem filter_take {α : Type} (f : α → Bool) {l : List α} {i : Nat} {x : α} (h : l[i]? = some x) : (l.take (i + 1)).filter f = (l.take i).filter f ++ (if f x = true then [x] else []) := by
  rw [List.take_add_one, h, List.filter_append]
  cases e : f x <;> simp [e]
/-- [x for x in l if test]: l holds numbers -/
theorem filt_list {K : PySem.W.Frag} {a : Addr} {l : List Nat} {j : Nat} {vs : List Nat} {σ : L2.St} {H1 : Hp} {D : Addr} {Qd : Hp → Prop} {tt : TT} (f : Nat → Bool) (hD : H1 D = none) (hl : SqL K H1 a (l.map nV)) (hn : l.length < 1000)
    (hj : ∀ v : V, ((wipe σ vs).set j (some v))[j]? = some (some v)) (hw : ∀ v : V, wipe ((wipe σ vs).set j (some v)) vs = wipe σ vs)
    (ht : ∀ k H', k ∈ l → Ext [] H1 H' → tt ((wipe σ vs).set j (some (nV k))) H' (fun b H3 => b = f k ∧ Ext [] H' H3))
    (hd : ∀ H', H' D = some (.lst ((l.filter f).map nV)) → Ext [] H1 H' → Qd H') : LcEnd (gName j) (tMidT tt) (tVar j) vs σ D (Itl K a) H1 Qd := by
  refine lc_list (K := K) (a := a) (xs := l.map nV) (fun i H' => H' D = some (.lst (((l.take i).filter f).map nV)) ∧ Ext [] H1 H') ⟨upd_same, .new hD⟩ (fun i H' _ ⟨_, e⟩ => e.frz (by simp) hl) ?_ ?_
  · rintro i v H' hv ⟨h1, e⟩
    obtain ⟨k, hk, rfl⟩ := map_at hv
    refine ⟨hw _, _, ht k H' (List.mem_of_getElem? hk) e, ?_⟩
    rintro b H3 ⟨rfl, e3⟩
    have h3 := e3.at h1 (by simp)
    rw [filter_take f hk]
    refine ifB (fun hf => ?_) (fun hf => ?_)
    · refine ⟨_, hj _, _, h3, ?_, ?_, (e.trans e3).put hD⟩
      · rw [List.length_map]
        refine small1000 (Nat.le_trans (List.length_filter_le _ _) ?_)
        rw [List.length_take]
        omega
      · rw [upd_same, hf]
        simp
    · rw [hf]
      simp only [Bool.false_eq_true, if_false, List.append_nil]
      exact ⟨h3, e.trans e3⟩
  · rintro H' ⟨h1, e⟩
    rw [List.length_map, List.take_length] at h1
    exact hd H' h1 e
/-- the same over a tuple -/
theorem filt_tup {K : PySem.W.Frag} {a : Addr} {l : List Nat} {j : Nat} {vs : List Nat} {σ : L2.St} {H1 : Hp} {D : Addr} {Qd : Hp → Prop} {tt : TT} (f : Nat → Bool) (hD : H1 D = none) (hl : SqT K H1 a (l.map nV)) (hn : l.length < 1000)
    (hj : ∀ v : V, ((wipe σ vs).set j (some v))[j]? = some (some v)) (hw : ∀ v : V, wipe ((wipe σ vs).set j (some v)) vs = wipe σ vs)
    (ht : ∀ k H', k ∈ l → Ext [] H1 H' → tt ((wipe σ vs).set j (some (nV k))) H' (fun b H3 => b = f k ∧ Ext [] H' H3))
    (hd : ∀ H', H' D = some (.lst ((l.filter f).map nV)) → Ext [] H1 H' → Qd H') : LcEnd (gName j) (tMidT tt) (tVar j) vs σ D (Itt K a) H1 Qd := by
  refine lc_tup (K := K) (a := a) (xs := l.map nV) (fun i H' => H' D = some (.lst (((l.take i).filter f).map nV)) ∧ Ext [] H1 H') ⟨upd_same, .new hD⟩ (fun i H' _ ⟨_, e⟩ => e.tup Lsts.nil hl) ?_ ?_
  · rintro i v H' hv ⟨h1, e⟩
    obtain ⟨k, hk, rfl⟩ := map_at hv
    refine ⟨hw _, _, ht k H' (List.mem_of_getElem? hk) e, ?_⟩
    rintro b H3 ⟨rfl, e3⟩
    have h3 := e3.at h1 (by simp)
    rw [filter_take f hk]
    refine ifB (fun hf => ?_) (fun hf => ?_)
    · refine ⟨_, hj _, _, h3, ?_, ?_, (e.trans e3).put hD⟩
      · rw [List.length_map]
        refine small1000 (Nat.le_trans (List.length_filter_le _ _) ?_)
        rw [List.length_take]
        omega
      · rw [upd_same, hf]
        simp
    · rw [hf]
      simp only [Bool.false_eq_true, if_false, List.append_nil]
      exact ⟨h3, e.trans e3⟩
  · rintro H' ⟨h1, e⟩
    rw [List.length_map, List.take_length] at h1
    exact hd H' h1 e
/-- [x for x in range(n) if test] -/
theorem filt_range {n : Nat} {j : Nat} {vs : List Nat} {σ : L2.St} {H1 : Hp} {D : Addr} {Qd : Hp → Prop} {tt : TT} (f : Nat → Bool) (hD : H1 D = none) (hn : n < 1000)
    (hj : ∀ v : V, ((wipe σ vs).set j (some v))[j]? = some (some v)) (hw : ∀ v : V, wipe ((wipe σ vs).set j (some v)) vs = wipe σ vs)
    (ht : ∀ k H', k < n → Ext [] H1 H' → tt ((wipe σ vs).set j (some (nV k))) H' (fun b H3 => b = f k ∧ Ext [] H' H3))
    (hd : ∀ H', H' D = some (.lst (((List.range n).filter f).map nV)) → Ext [] H1 H' → Qd H') : LcEnd (gName j) (tMidT tt) (tVar j) vs σ D (Itr 0 n) H1 Qd := by
  refine lc_range (lo := 0) (n := n) (fun i H' => H' D = some (.lst ((((List.range n).take i).filter f).map nV)) ∧ Ext [] H1 H') ⟨upd_same, .new hD⟩ ?_ ?_
  · rintro i H' hi ⟨h1, e⟩
    have hk : (List.range n)[i]? = some i := by rw [List.getElem?_range hi]
    simp only [Int.zero_add]
    refine ⟨hw _, _, ht i H' hi e, ?_⟩
    rintro b H3 ⟨rfl, e3⟩
    have h3 := e3.at h1 (by simp)
    rw [filter_take f hk]
    refine ifB (fun hf => ?_) (fun hf => ?_)
    · refine ⟨_, hj _, _, h3, ?_, ?_, (e.trans e3).put hD⟩
      · rw [List.length_map]
        refine small1000 (Nat.le_trans (List.length_filter_le _ _) ?_)
        rw [List.length_take, List.length_range]
        omega
      · rw [upd_same, hf]
        simp
    · rw [hf]
      simp only [Bool.false_eq_true, if_false, List.append_nil]
      exact ⟨h3, e.trans e3⟩
  · rintro H' ⟨h1, e⟩
    rw [List.take_of_length_le (by simp)] at h1
    exact hd H' h1 e
/-- two clauses: the first over a list -/
theorem lc2_list {K : PySem.W.Frag} {a : Addr} {xs : List V} {g g1 : TG} {tt tt1 : TT} {wi1 : TI} {te : TE} {vs vs1 : List Nat} {σ : L2.St} {H1 : Hp} {D : Addr} {Qd : Hp → Prop} (Pv : Nat → Hp → Prop) (h0 : Pv 0 (upd H1 D (.lst []))) (hl : ∀ i H, i ≤ xs.length → Pv i H → SqL K H a xs)
    (hs : ∀ i x H, xs[i]? = some x → Pv i H → g x (wipe σ vs) H fun σ2 H2 => wipe σ2 vs = wipe σ vs ∧ tt σ2 H2 fun b H3 => if b = true then wi1 σ2 H3 fun J1 H4 => ∃ W1 : Nat → Nat → Hp → Prop, (∃ m, W1 0 m H4) ∧ ∀ j k H, W1 j k H →
      (J1.stop j H ∧ Pv (i + 1) H) ∨ (J1.go j H ∧ ∃ Nx1 : Hp → Prop, (∀ H', Nx1 H' → ∃ k', k' < k ∧ W1 (j + 1) k' H') ∧ ∀ x H', J1.yld j H x H' → g1 x (wipe σ2 vs1) H' fun σ3 H5 => wipe σ3 vs1 = wipe σ2 vs1 ∧ tt1 σ3 H5 fun b H6 =>
        if b = true then te σ3 H6 fun y H7 => ∃ acc, H7 D = some (.lst acc) ∧ acc.length < sizeLine ∧ Nx1 (upd H7 D (.lst (acc ++ [y]))) else Nx1 H6) else Pv (i + 1) H3)
    (hd : ∀ H, Pv xs.length H → Qd H) :
    ∃ W : Nat → Nat → Hp → Prop, (∃ m, W 0 m (upd H1 D (.lst []))) ∧ ∀ i m H, W i m H →
      ((Itl K a).stop i H ∧ Qd H) ∨ ((Itl K a).go i H ∧ ∃ Nx : Hp → Prop, (∀ H', Nx H' → ∃ m', m' < m ∧ W (i + 1) m' H') ∧ ∀ x H', (Itl K a).yld i H x H' → g x (wipe σ vs) H' fun σ2 H2 => wipe σ2 vs = wipe σ vs ∧ tt σ2 H2 fun b H3 =>
        if b = true then wi1 σ2 H3 fun J1 H4 => ∃ W1 : Nat → Nat → Hp → Prop, (∃ m, W1 0 m H4) ∧ ∀ j k H, W1 j k H →
          (J1.stop j H ∧ Nx H) ∨ (J1.go j H ∧ ∃ Nx1 : Hp → Prop, (∀ H', Nx1 H' → ∃ k', k' < k ∧ W1 (j + 1) k' H') ∧ ∀ x H', J1.yld j H x H' → g1 x (wipe σ2 vs1) H' fun σ3 H5 => wipe σ3 vs1 = wipe σ2 vs1 ∧ tt1 σ3 H5 fun b H6 =>
            if b = true then te σ3 H6 fun y H7 => ∃ acc, H7 D = some (.lst acc) ∧ acc.length < sizeLine ∧ Nx1 (upd H7 D (.lst (acc ++ [y]))) else Nx1 H6)
        else Nx H3) := by
  refine ⟨fun i m H => m = xs.length - i ∧ i ≤ xs.length ∧ Pv i H, ⟨xs.length, by simp, Nat.zero_le _, h0⟩, ?_⟩
  rintro i m H ⟨rfl, hi, p⟩
  have q := hl i H hi p
  by_cases lt : i < xs.length
  · refine .inr ⟨⟨xs, xs[i], q, List.getElem?_eq_getElem lt⟩, Pv (i + 1), fun H' p' => ⟨xs.length - (i + 1), by omega, rfl, lt, p'⟩, fun x H' y => ?_⟩
    obtain ⟨rfl, y2⟩ := y
    exact hs i x H' (y2 xs q) p
  · have e : i = xs.length := by omega
    subst e
    exact .inl ⟨⟨xs, q, Nat.le_refl _⟩, hd H p⟩
/-- the second over a tuple -/
theorem lc2_tup {K : PySem.W.Frag} {c : Addr} {ys : List V} {g1 : TG} {tt1 : TT} {te : TE} {vs1 : List Nat} {σ2 : L2.St} {H4 : Hp} {D : Addr} {Nx : Hp → Prop} (Pv : Nat → Hp → Prop) (h0 : Pv 0 H4) (hl : ∀ j H, j ≤ ys.length → Pv j H → SqT K H c ys)
    (hs : ∀ j y H, ys[j]? = some y → Pv j H → g1 y (wipe σ2 vs1) H fun σ3 H5 => wipe σ3 vs1 = wipe σ2 vs1 ∧ tt1 σ3 H5 fun b H6 =>
      if b = true then te σ3 H6 fun y H7 => ∃ acc, H7 D = some (.lst acc) ∧ acc.length < sizeLine ∧ Pv (j + 1) (upd H7 D (.lst (acc ++ [y]))) else Pv (j + 1) H6) (hd : ∀ H, Pv ys.length H → Nx H) :
    ∃ W1 : Nat → Nat → Hp → Prop, (∃ m, W1 0 m H4) ∧ ∀ j k H, W1 j k H →
      ((Itt K c).stop j H ∧ Nx H) ∨ ((Itt K c).go j H ∧ ∃ Nx1 : Hp → Prop, (∀ H', Nx1 H' → ∃ k', k' < k ∧ W1 (j + 1) k' H') ∧ ∀ x H', (Itt K c).yld j H x H' → g1 x (wipe σ2 vs1) H' fun σ3 H5 => wipe σ3 vs1 = wipe σ2 vs1 ∧ tt1 σ3 H5 fun b H6 =>
        if b = true then te σ3 H6 fun y H7 => ∃ acc, H7 D = some (.lst acc) ∧ acc.length < sizeLine ∧ Nx1 (upd H7 D (.lst (acc ++ [y]))) else Nx1 H6) := by
  refine ⟨fun i m H => m = ys.length - i ∧ i ≤ ys.length ∧ Pv i H, ⟨ys.length, by simp, Nat.zero_le _, h0⟩, ?_⟩
  rintro i m H ⟨rfl, hi, p⟩
  have q := hl i H hi p
  by_cases lt : i < ys.length
  · refine .inr ⟨⟨ys, ys[i], q, List.getElem?_eq_getElem lt⟩, Pv (i + 1), fun H' p' => ⟨ys.length - (i + 1), by omega, rfl, lt, p'⟩, fun x H' y => ?_⟩
    obtain ⟨rfl, y2⟩ := y
    exact hs i x H' (y2 ys q) p
  · have e : i = ys.length := by omega
    subst e
    exact .inl ⟨⟨ys, q, Nat.le_refl _⟩, hd H p⟩
end Nv
set_option linter.all false
namespace Nv
/-! ### forks, reach, ways back -/
theorem srt_eq : ∀ {l m : List Nat}, l.Pairwise (· < ·) → m.Pairwise (· < ·) → (∀ k, k ∈ l ↔ k ∈ m) → l = m
  | [], [], _, _, _ => rfl
  | [], b :: m, _, _, h => by have := (h b).mpr (by simp); cases this
  | a :: l, [], _, _, h => by have := (h a).mp (by simp); cases this
  | a :: l, b :: m, h1, h2, h => by
    obtain ⟨a1, a2⟩ := List.pairwise_cons.mp h1
    obtain ⟨b1, b2⟩ := List.pairwise_cons.mp h2
    have e : a = b := by
      have p := (h a).mp (by simp)
      have q := (h b).mpr (by simp)
      rcases List.mem_cons.mp p with p | p
      · exact p
      · rcases List.mem_cons.mp q with q | q
        · exact q.symm
        · have := b1 a p
          have := a1 b q
          omega
    subst e
    rw [srt_eq a2 b2 fun k => ?_]
    constructor
    · intro hk
      rcases List.mem_cons.mp ((h k).mp (List.mem_cons_of_mem _ hk)) with e | e
      · have := a1 k hk; omega
      · exact e
    · intro hk
      rcases List.mem_cons.mp ((h k).mpr (List.mem_cons_of_mem _ hk)) with e | e
      · have := b1 k hk; omega
      · exact e
theorem filt_srt (n : Nat) (f : Nat → Bool) : ((List.range n).filter f).Pairwise (· < ·) := List.Pairwise.sublist List.filter_sublist List.pairwise_lt_range
theorem mem_filt {n : Nat} {f : Nat → Bool} {k : Nat} : k ∈ (List.range n).filter f ↔ k < n ∧ f k = true := by rw [List.mem_filter, List.mem_range]
def forksM (b : Book) : List Nat := (List.range b.length).filter fun s => decide (1 < (mvs b s).length)
/-- one message further -/
def nextB (b : Book) (L : List Nat) (k : Nat) : Bool := decide (k ∈ L) || L.any fun j => (mvs b j).any fun p => p.2 == k
def stepL (b : Book) (L : List Nat) : List Nat := (List.range b.length).filter (nextB b L)
def wiL (b : Book) (s : Nat) : Nat → List Nat
  | 0 => [s]
  | n + 1 => stepL b (wiL b s n)
def reachL (b : Book) (s many : Nat) : List Nat := wiL b s (min many b.length)
def ledL (b : Book) (t many : Nat) : List Nat := if many = 0 then [] else reachL b t (many - 1)
theorem wiL_lt {b : Book} {s : Nat} (hs : s < b.length) : ∀ n, ∀ k ∈ wiL b s n, k < b.length
  | 0, k, hk => by rw [List.mem_singleton.mp hk]; exact hs
  | n + 1, k, hk => (mem_filt.mp hk).1
theorem wiL_srt (b : Book) (s : Nat) : ∀ n, (wiL b s n).Pairwise (· < ·)
  | 0 => by simp [wiL]
  | n + 1 => filt_srt _ _
theorem srt_nodup {l : List Nat} (h : l.Pairwise (· < ·)) : l.Nodup := List.Pairwise.imp (fun h e => by omega) h
theorem wiL_len {b : Book} {s : Nat} (hs : s < b.length) (n : Nat) : (wiL b s n).length ≤ b.length := nodup_le (srt_nodup (wiL_srt b s n)) (wiL_lt hs n)
def waysM (b : Book) (s : Nat) : Nat := ((mvs b s).filter fun p => decide (s ∈ reachL b p.2 b.length)).length
def knotsM (b : Book) : List Nat := (List.range b.length).filter fun s => decide (1 < waysM b s)
/-- a step's list, by what it has -/
theorem step_eq {b : Book} (fb : FormB b) {L ahead ms : List Nat} (hL : ∀ k ∈ L, k < b.length) (ha : ∀ k, k ∈ ahead ↔ ∃ j ∈ L, ∃ p ∈ mvs b j, p.2 = k) (h1 : ms.Pairwise (· < ·)) (h2 : ∀ k, k ∈ ms ↔ k ∈ L ∨ k ∈ ahead) : ms = stepL b L := by
  refine srt_eq h1 (filt_srt _ _) fun k => ?_
  rw [h2, ha]
  unfold stepL
  rw [mem_filt]
  unfold nextB
  rw [Bool.or_eq_true, decide_eq_true_eq, List.any_eq_true]
  constructor
  · rintro (h | ⟨j, hj, p, hp, e⟩)
    · exact ⟨hL k h, .inl h⟩
    · exact ⟨by rw [← e]; exact fb.to hp, .inr ⟨j, hj, by rw [List.any_eq_true]; exact ⟨p, hp, by simp [e]⟩⟩⟩
  · rintro ⟨_, h | ⟨j, hj, h⟩⟩
    · exact .inl h
    · rw [List.any_eq_true] at h
      obtain ⟨p, hp, e⟩ := h
      exact .inr ⟨j, hj, p, hp, by simpa using e⟩
def leadM (b : Book) (W s : Nat) (goals : List Nat) : List Nat := ((mvs b s).filter fun p => (ledL b p.2 (W - 1)).any fun k => decide (k ∈ goals)).map (·.1)
theorem reachL_lt {b : Book} {s m : Nat} (hs : s < b.length) : ∀ k ∈ reachL b s m, k < b.length := wiL_lt hs _
theorem ledL_lt {b : Book} {s m : Nat} (hs : s < b.length) : ∀ k ∈ ledL b s m, k < b.length := by
  unfold ledL
  split
  · intro k hk; cases hk
  · exact reachL_lt hs
/-! ### a dict of unlike keys -/
open L2 in
theorem valV_none_of {kvs : List (Key × V)} {k : Key} (h : k ∉ kvs.map (·.1)) : valV kvs k = none := by
  cases e : valV kvs k with
  | none => rfl
  | some v => exact absurd (List.mem_map.mpr ⟨_, valV_mem e, rfl⟩) h
open L2 in
theorem mergeK_nd : ∀ (more acc : List (Key × V)), ((acc ++ more).map (·.1)).Nodup → mergeK acc more = acc ++ more
  | [], acc, _ => by show acc = acc ++ []; rw [List.append_nil]
  | p :: r, acc, h => by
    have hp : valV acc p.1 = none := valV_none_of fun z => by
      rw [List.map_append, List.map_cons, List.nodup_append] at h
      exact h.2.2 _ z _ (by simp) rfl
    show mergeK (putK acc p.1 p.2) r = _
    rw [putK_new _ hp, mergeK_nd r (acc ++ [(p.1, p.2)]) (by rw [List.append_assoc]; exact h), List.append_assoc]
    rfl
open L2 in
theorem valV_nd : ∀ {kvs : List (Key × V)} {k : Key} {v : V}, (kvs.map (·.1)).Nodup → (k, v) ∈ kvs → valV kvs k = some v
  | [], _, _, _, h => nomatch h
  | p :: r, k, v, nd, h => by
    rw [List.map_cons, List.nodup_cons] at nd
    rcases List.mem_cons.mp h with h | h
    · subst h
      exact valV_pos rfl
    · have ne : ¬ p.1 = k := fun e => nd.1 (by rw [e]; exact List.mem_map.mpr ⟨_, h, rfl⟩)
      rw [valV_neg ne]
      exact valV_nd nd.2 h
/-! ### ranks, round by round -/
def setAll (r : List (Option Int)) (L : List Nat) (x : Int) : List (Option Int) := L.foldl (fun r f => r.set f (some x)) r
theorem setAll_snoc (r : List (Option Int)) (L : List Nat) (f : Nat) (x : Int) : setAll r (L ++ [f]) x = (setAll r L x).set f (some x) := by
  unfold setAll
  rw [List.foldl_append]
  rfl
theorem setAll_len : ∀ (L : List Nat) (r : List (Option Int)) (x : Int), (setAll r L x).length = r.length
  | [], _, _ => rfl
  | f :: L, r, x => by
    show (setAll (r.set f (some x)) L x).length = _
    rw [setAll_len L, List.length_set]
def fallM (b : Book) (W : Nat) (st : List Nat) : List Nat := st.filter fun f => decide ((leadM b W f st).length < 2)
def restM (b : Book) (W : Nat) (st : List Nat) : List Nat := st.filter fun f => !decide (f ∈ fallM b W st)
inductive Rk (b : Book) (W : Nat) : Nat → List Nat → List (Option Int) → List (Option Int) → List Nat → Prop
  | stop {t : Nat} {st : List Nat} {r : List (Option Int)} : fallM b W st = [] → Rk b W t st r (setAll r st (-1)) st
  | go {t : Nat} {st fin : List Nat} {r res : List (Option Int)} : fallM b W st ≠ [] → Rk b W (t + 1) (restM b W st) (setAll r (fallM b W st) t) res fin → Rk b W t st r res fin
theorem rest_len {b : Book} {W : Nat} {st : List Nat} (h : fallM b W st ≠ []) : (restM b W st).length < st.length := by
  obtain ⟨f, hf⟩ := List.exists_mem_of_ne_nil _ h
  have hs : f ∈ st := (List.mem_filter.mp hf).1
  unfold restM
  refine Nat.lt_of_le_of_ne (List.length_filter_le _ _) fun e => ?_
  have := List.length_filter_eq_length_iff.mp e f hs
  simp [hf] at this
def LastM (b : Book) (W : Nat) (res : List (Option Int)) (fin : List Nat) : Prop := Rk b W 0 (forksM b) (List.replicate b.length none) res fin
def lastL (b : Book) (res : List (Option Int)) : List Nat := (List.range b.length).filter fun s => decide (res[s]? = some (some (-1)))
/-- the least number where the window is a number -/
def leastM (b : Book) (res : List (Option Int)) : Nat := if mvs b 0 = [] then 0 else if forksM b = [] then 1 else if lastL b res = [] then 2 else 3
theorem rk_len {b : Book} {W t : Nat} {st fin : List Nat} {r res : List (Option Int)} (h : Rk b W t st r res fin) : res.length = r.length := by
  induction h with
  | stop _ => exact setAll_len _ _ _
  | go _ _ ih => rw [ih, setAll_len]
theorem rk_ex (b : Book) (W : Nat) : ∀ (n t : Nat) (st : List Nat) (r : List (Option Int)), st.length ≤ n → ∃ res fin, Rk b W t st r res fin := by
  intro n
  induction n with
  | zero =>
    intro t st r h
    have : st = [] := List.eq_nil_of_length_eq_zero (by omega)
    subst this
    exact ⟨_, _, .stop rfl⟩
  | succ n ih =>
    intro t st r h
    by_cases e : fallM b W st = []
    · exact ⟨_, _, .stop e⟩
    · obtain ⟨res, fin, k⟩ := ih (t + 1) (restM b W st) (setAll r (fallM b W st) t) (by have := rest_len e; omega)
      exact ⟨res, fin, .go e k⟩
theorem rk_fun {b : Book} {W t : Nat} {st fin fin' : List Nat} {r res res' : List (Option Int)} (h : Rk b W t st r res fin) (h' : Rk b W t st r res' fin') : res = res' ∧ fin = fin' := by
  induction h with
  | stop e =>
    cases h' with
    | stop _ => exact ⟨rfl, rfl⟩
    | go e' _ => exact absurd e e'
  | go e _ ih =>
    cases h' with
    | stop e' => exact absurd e' e
    | go _ k => exact ih k
open PySem PySem.Spec PyProof.Rows L2
/-- the first window for three wires -/
def FromW (b : Book) (o : Option Nat) : Prop := match o with
  | some W => 1 ≤ W ∧ W ≤ 9 ∧ (∃ res fin, LastM b W res fin ∧ leastM b res = 3) ∧ ∀ V, 1 ≤ V → V < W → ∀ res fin, LastM b V res fin → leastM b res ≠ 3
  | none => ∀ V, 1 ≤ V → V ≤ 9 → ∀ res fin, LastM b V res fin → leastM b res ≠ 3
def oN : Option Nat → V
  | none => .non
  | some n => nV n
end Nv
set_option Elab.async false
set_option linter.all false
set_option maxRecDepth 100000
namespace Nv
open PySem PySem.Spec PyProof.Rows L2
section
variable {P : Program} {w : World} {K : PySem.W.Frag} {mg : Str → Option Value} {base : Heap}
/-! ### forks, reach -/
theorem forTo {n m : Nat} (h : n = m) : ((n : Int)).toNat = m := by rw [Int.toNat_natCast, h]
theorem sc_fork_states : FnScope ["book", "state"] ["book"] (defScope s_fork_states) := ⟨rfl, rfl, rfl, by decide +kernel, rfl, by decide +kernel, by decide +kernel⟩
def sp_fork_states (K : PySem.W.Frag) : Sp := fun vs H Q _ => ∃ (v : V) (b : Book), vs = [v] ∧ BkV K H v b ∧ b.length ≤ 8 ∧ ∀ (t : Addr) (H' : Hp), SqT K H' t ((forksM b).map nV) → Ext [] H H' → Q (.ref t) H'
theorem ok_fork_states (T : Tx K mg) : FnOk P w K mg base CX0 1 T.fork_states.f T.fork_states.fd ["book"] (sp_fork_states K) := by
  refine T.fork_states.F.ok sc_fork_states (fun vs H Q E h => ?_) (fun cdv A outer s H vs Q E hr h => ?_)
  · obtain ⟨v, b, rfl, _⟩ := h; rfl
  · obtain ⟨v, b, rfl, ⟨a, ls, rfl, ha, hls⟩, h8, q⟩ := h
    have llen := Paired.len hls
    refine ⟨_, (pss_one (ps_ret (pe_callTy call_tupZ (by rfl) T.n_tuple (by decide +kernel) (pa_cons (pe_lc (own := [("state", 1)]) rfl sc_fork_states.nd (pi_range1 (by rfl) T.n_range (pa_cons (pe_callB call_len_seq (by rfl) T.n_len PySem.boot_len (pa_cons (pv 0) pa_nil)) pa_nil)) (blkOk_by (own := [("state", 1)]) (N := ["book", "state"]) (sc := defScope s_fork_states) (by decide +kernel)) (fun _ _ _ _ _ => (pg_name (i := 1) sc_fork_states.nd rfl (.inl rfl))) (fun _ _ _ _ _ => pts_one (pt_mid (pt_cmpR op_gt (pe_callB (call_len_seqK K) (by rfl) T.n_len PySem.boot_len (pa_cons (pe_ix (ix_tupK K) (pv 0) (pv 1) (fun _ _ => rfl)) pa_nil)) pe_int (nomark _)))) (fun _ _ _ _ _ => (pv 1))) pa_nil)))), ?_⟩
    refine ⟨_, rfl, a, _, rfl, .inr ha, _, rfl, by omega, by omega, fun D hD => ?_⟩
    rw [forTo llen]
    refine filt_range (fun s => decide (1 < (mvs b s).length)) hD (by omega) (fun v => rfl) (fun v => rfl) (fun k H' hk e => ?_) (fun H' h e => ?_)
    · obtain ⟨u, hu, c, ps, rfl, hc, hps⟩ := Paired.get hls (mvs_lt hk)
      have plen := Paired.len hps
      refine ⟨_, rfl, _, rfl, a, _, _, _, rfl, rfl, e.tup Lsts.nil ha, atI_nat hu, c, _, rfl, .inr (e.tz Lsts.nil hc).sq, _, _, rfl, rfl, _, rfl, ?_, .refl⟩
      rw [List.length_map, plen]
      refine decide_eq_decide.mpr ?_
      omega
    · refine ⟨D, _, rfl, .of h, fun t H2 ht hH => ?_⟩
      obtain ⟨o, _, rfl⟩ := hH
      exact q t _ (.inl (.inr ⟨o, upd_same⟩)) (e.put2 ht)
theorem sc_reach : FnScope ["book", "state", "many", "found", "_", "ahead", "at", "message", "to"] ["book", "state", "many"] (defScope s_reach) := ⟨rfl, rfl, rfl, by decide +kernel, rfl, by decide +kernel, by decide +kernel⟩
def sp_reach (K : PySem.W.Frag) : Sp := fun vs H Q _ => ∃ (v : V) (b : Book) (s m : Nat), vs = [v, .int s, .int m] ∧ BkV K H v b ∧ FormB b ∧ s < b.length ∧ ∀ (t : Addr) (H' : Hp), SqT K H' t ((reachL b s m).map nV) → Ext [] H H' → Q (.ref t) H'
theorem ok_reach (T : Tx K mg) : FnOk P w K mg base CX0 1 T.reach.f T.reach.fd ["book", "state", "many"] (sp_reach K) := by
  refine T.reach.F.ok sc_reach (fun vs H Q E h => ?_) (fun cdv A outer s H vs Q E hr h => ?_)
  · obtain ⟨v, b, s, m, rfl, _⟩ := h; rfl
  · obtain ⟨v, b, st, m, rfl, ⟨a, ls, rfl, ha, hls⟩, fb, hs, q⟩ := h
    have llen := Paired.len hls
    have h8 := fb.eight
    refine ⟨_, (pss_cons (ps_set (i := 3) sc_reach.nd rfl (.inl rfl) (pe_lst (pa_cons (pv 1) pa_nil)))
      (pss_cons (ps_for PassesOwn.never rfl (pi_range1 (by rfl) T.n_range (pa_cons (pe_callB (call_min2 rfl) (by rfl) T.n_min (by decide +kernel) (pa_cons (pv 2) (pa_cons (pe_callB call_len_seq (by rfl) T.n_len PySem.boot_len (pa_cons (pv 0) pa_nil)) pa_nil))) pa_nil)) (pg_name (i := 4) sc_reach.nd rfl (.inl rfl))
        (pss_cons (ps_setLc2 (i := 5) (own := [("at", 6), ("message", 7), ("to", 8)]) (vs1 := [7, 8]) rfl sc_reach.nd rfl rfl (sw_true rfl rfl rfl (by decide +kernel)) (pi_list (pv 3)) (blkOk_by (own := [("at", 6), ("message", 7), ("to", 8)]) (N := ["book", "state", "many", "found", "_", "ahead", "at", "message", "to"]) (sc := defScope s_reach) (by decide +kernel)) (by decide) (fun _ _ _ _ _ => (pg_name (i := 6) sc_reach.nd rfl (.inl rfl))) (fun _ _ _ _ _ => pts_nil) (fun _ _ _ _ _ => (pi_tupK K (pe_ix (ix_tupK K) (pv 0) (pv 6) (fun _ _ => rfl)))) (fun _ _ _ _ _ => (pg_tupK (n := 2) K rfl (pgs_cons (pg_name (i := 7) sc_reach.nd rfl (.inl rfl)) (pgs_cons (pg_name (i := 8) sc_reach.nd rfl (.inl rfl)) pgs_nil)))) (fun _ _ _ _ _ => pts_nil) (fun _ _ _ _ _ => (pv 8)))
        (pss_one (ps_set (i := 3) sc_reach.nd rfl (.inl rfl) (pe_callB (cr_sortedSet rfl) (by rfl) T.n_sorted (by decide +kernel) (pa_cons (pe_callTy (cr_setI rfl) (by rfl) T.n_set (by decide +kernel) (pa_cons (pe_op op_cat (pv 3) (pv 5)) pa_nil)) pa_nil))))))
      (pss_one (ps_ret (pe_callTy call_tupZ (by rfl) T.n_tuple (by decide +kernel) (pa_cons (pv 3) pa_nil)))))), ?_⟩
    -- found = [state]
    refine ⟨_, rfl, (by show 1 ≤ sizeLine; decide), fun f0 hf0 => ?_⟩
    -- the loop
    have hmin : (if ((ls.length : Int)) < (m : Int) then (ls.length : Int) else (m : Int)) = ((min m b.length : Nat) : Int) := by
      rw [llen]
      by_cases h : (b.length : Int) < (m : Int)
      · rw [if_pos h]; omega
      · rw [if_neg h]; omega
    refine ⟨_, rfl, _, rfl, a, _, rfl, .inr (Ext.tup (Ext.new (L := []) hf0) Lsts.nil ha), _, _, rfl, _, rfl, ?_⟩
    rw [hmin]
    refine ⟨by omega, by omega, ?_⟩
    rw [Int.toNat_natCast]
    refine for_range (lo := 0) (n := _) (fun i σ H' => ∃ (f : Addr) (y4 y5 : Option V), σ = [some (.ref a), some (.int st), some (.int m), some (.ref f), y4, y5, none, none, none] ∧ H' f = some (.lst ((wiL b st i).map nV)) ∧ Ext [] H H') ⟨f0, _, _, rfl, upd_same, .new hf0⟩ ?_ ?_
    · rintro i σ H1 hi ⟨f, y4, y5, rfl, hF, e1⟩
      -- ahead
      refine ⟨_, rfl, f, rfl, ⟨_, .of hF⟩, fun D hD => ?_⟩
      have fD : f ≠ D := ne_of_none hF hD
      have wlt := wiL_lt hs i
      have wlen := wiL_len hs i
      refine lc2_list (K := K) (a := f) (xs := (wiL b st i).map nV) (fun j H' => ∃ ah : List Nat, H' D = some (.lst (ah.map nV)) ∧ ah.length ≤ 5 * j ∧ (∀ k, k ∈ ah ↔ ∃ x ∈ (wiL b st i).take j, ∃ p ∈ mvs b x, p.2 = k) ∧ Ext [] H1 H') ⟨[], upd_same, Nat.zero_le _, fun k => by simp, .new hD⟩ (fun j H' _ ⟨_, _, _, _, e⟩ => .of (e.at hF (by simp))) ?_ ?_
      · rintro j v H' hv ⟨ah, hA, al, am, e2⟩
        obtain ⟨x, hx, rfl⟩ := map_at hv
        have hxb : x < b.length := wlt x (List.mem_of_getElem? hx)
        obtain ⟨u, hu, c, ps, rfl, hc, hps⟩ := Paired.get hls (mvs_lt hxb)
        have plen := Paired.len hps
        have five := (fb.ok hxb).few
        have e3 := e1.trans e2
        refine ⟨rfl, yes ?_⟩
        refine ⟨_, rfl, _, rfl, a, _, _, _, rfl, rfl, e3.tup Lsts.nil ha, atI_nat hu, c, rfl, ⟨_, (e3.tz Lsts.nil hc).sq⟩, ?_⟩
        refine lc2_tup (K := K) (c := c) (ys := ps.map V.ref) (fun k H2 => ∃ ah2 : List Nat, H2 D = some (.lst (ah2.map nV)) ∧ ah2.length ≤ 5 * j + k ∧ (∀ z, z ∈ ah2 ↔ z ∈ ah ∨ ∃ p ∈ (mvs b x).take k, p.2 = z) ∧ Ext [] H1 H2) ⟨ah, hA, al, fun z => by simp, e2⟩ (fun k H2 _ ⟨_, _, _, _, e⟩ => ((e1.trans e).tz Lsts.nil hc).sq) ?_ ?_
        · rintro k v H2 hv2 ⟨ah2, hA2, al2, am2, e5⟩
          obtain ⟨g, hg, rfl⟩ := map_at hv2
          obtain ⟨p, hp, hcp⟩ := Paired.get' hps hg
          have hk5 : k < 5 := by
            have := (List.getElem?_eq_some_iff.mp hp).1
            omega
          have hjl : j < b.length := by
            have := (List.getElem?_eq_some_iff.mp hx).1
            omega
          refine ⟨g, _, rfl, hcp.ext0 (e1.trans e5), rfl, _, _, rfl, _, _, rfl, rfl, rfl, yes ?_⟩
          refine ⟨_, rfl, _, hA2, by rw [List.length_map]; exact small1000 (by omega), ah2 ++ [p.2], by rw [upd_same, List.map_append]; rfl, by rw [List.length_append]; show ah2.length + 1 ≤ _; omega, fun z => ?_, e5.put hD⟩
          · rw [List.mem_append, am2, List.take_add_one, hp]
            constructor
            · rintro ((h | ⟨y, hy, e⟩) | h)
              · exact .inl h
              · exact .inr ⟨y, List.mem_append_left _ hy, e⟩
              · exact .inr ⟨p, List.mem_append_right _ (by simp), (List.mem_singleton.mp h).symm⟩
            · rintro (h | ⟨y, hy, e⟩)
              · exact .inl (.inl h)
              · rcases List.mem_append.mp hy with hy | hy
                · exact .inl (.inr ⟨y, hy, e⟩)
                · have : y = p := by simpa using hy
                  subst this
                  exact .inr (List.mem_singleton.mpr e.symm)
        · rintro H2 ⟨ah2, hA2, al2, am2, e5⟩
          rw [List.length_map, plen] at al2 am2
          refine ⟨ah2, hA2, by omega, fun k => ?_, e5⟩
          rw [am2, am, List.take_of_length_le (Nat.le_refl _), List.take_add_one, hx]
          constructor
          · rintro (⟨y, hy, r⟩ | ⟨p, hp, e⟩)
            · exact ⟨y, List.mem_append_left _ hy, r⟩
            · exact ⟨x, List.mem_append_right _ (by simp), p, hp, e⟩
          · rintro ⟨y, hy, p, hp, e⟩
            rcases List.mem_append.mp hy with hy | hy
            · exact .inl ⟨y, hy, p, hp, e⟩
            · have : y = x := by simpa using hy
              subst this
              exact .inr ⟨p, hp, e⟩
      · rintro H' ⟨ah, hA, al, am, e2⟩
        rw [List.length_map] at al am
        rw [List.take_length] at am
        have hF2 := e2.at hF (by simp)
        have e3 := e1.trans e2
        -- found = sorted(set(found + ahead))
        refine ⟨_, rfl, _, rfl, f, D, _, _, rfl, rfl, hF2, hA, ?_, fun c hc => ?_⟩
        · rw [List.length_map, List.length_map]
          exact Nat.le_of_lt (small1000 (by omega))
        have e4 : Ext [] H' (upd H' c (.lst ((wiL b st i).map nV ++ ah.map nV))) := .new hc
        refine ⟨c, (wiL b st i ++ ah).map (fun n : Nat => (n : Int)), rfl, .of ?_, ?_, fun p z hp hz => ?_⟩
        · rw [upd_same, ← List.map_append, map_nV_int]
        · rw [List.length_map, List.length_append]
          omega
        have e5 := e4.trans (Ext.new (L := []) (o := SetO w p (fun j => decide (j ∈ (wiL b st i ++ ah).map (fun n : Nat => (n : Int)))) z) hp)
        refine ⟨p, _, z, rfl, upd_same, ?_, fun ns t hns hmem hlen ht => ?_⟩
        · rw [List.length_map, List.length_append] at hz
          omega
        have nn : ∃ ms : List Nat, ns = ms.map (fun n : Nat => (n : Int)) := by
          refine ⟨ns.map Int.toNat, ?_⟩
          rw [List.map_map]
          conv => lhs; rw [← List.map_id ns]
          refine List.map_congr_left fun x hx => ?_
          have := (hmem x).mp hx
          have := of_decide_eq_true this
          obtain ⟨n, _, rfl⟩ := List.mem_map.mp this
          rfl
        obtain ⟨ms, rfl⟩ := nn
        have ems : ms = stepL b (wiL b st i) := by
          refine step_eq fb wlt am ?_ fun k => ?_
          · rw [List.pairwise_map] at hns
            exact List.Pairwise.imp (fun h => by omega) hns
          · have h1 := hmem (k : Int)
            rw [decide_eq_true_eq, List.mem_map, List.mem_map] at h1
            constructor
            · intro hk
              obtain ⟨y, hy, e⟩ := h1.mp ⟨k, hk, rfl⟩
              have : y = k := by omega
              subst this
              exact List.mem_append.mp hy
            · intro hk
              obtain ⟨y, hy, e⟩ := h1.mpr ⟨k, List.mem_append.mpr hk, rfl⟩
              have : y = k := by omega
              subst this
              exact hy
        subst ems
        exact ⟨t, _, _, rfl, by rw [upd_same, ← map_nV_int]; rfl, (e3.trans e5).put2 ht⟩
    · rintro σ H' ⟨f, y4, y5, rfl, hF, e⟩
      refine ⟨_, rfl, f, _, rfl, .of hF, fun t H2 ht hH => ?_⟩
      obtain ⟨o, _, rfl⟩ := hH
      exact q t _ (.inl (.inr ⟨o, upd_same⟩)) (e.put2 ht)
end
end Nv
set_option Elab.async false
set_option linter.all false
set_option maxRecDepth 100000
namespace Nv
open PySem PySem.Spec PyProof.Rows L2
section
variable {P : Program} {w : World} {K : PySem.W.Frag} {mg : Str → Option Value} {base : Heap}
/-! ### ways that lead, ways back -/
theorem iteNS' {c A B : Prop} [Decidable c] (hc : ¬ c) (h : A) : if (!decide c) = true then A else B := by
  rw [decide_eq_false hc]
  exact iteT h
theorem rise_nd {s : State} (h : (s.map (·.1)).Pairwise (· < ·)) : (s.map fun q => ((kN q.1, V.int q.2) : Key × V)).map (·.1) |>.Nodup := by
  rw [List.map_map]
  have e : ((fun x : Key × V => x.1) ∘ fun q : Nat × Nat => ((kN q.1, V.int q.2) : Key × V)) = kN ∘ (·.1) := rfl
  rw [e, ← List.map_map]
  refine List.Pairwise.map kN (fun a b h2 h3 => ?_) h
  have : (a : Int) = (b : Int) := Sum.inl.inj h3
  omega
theorem sc_led_to : FnScope ["book", "state", "message", "many"] ["book", "state", "message", "many"] (defScope s_led_to) := ⟨rfl, rfl, rfl, by decide +kernel, rfl, by decide +kernel, by decide +kernel⟩
def sp_led_to (K : PySem.W.Frag) : Sp := fun vs H Q _ => ∃ (v : V) (b : Book) (s k : Nat) (p : Nat × Nat), vs = [v, .int s, .int p.1, .int k] ∧ BkV K H v b ∧ FormB b ∧ p ∈ mvs b s ∧ ∀ (t : Addr) (H' : Hp), SqT K H' t ((ledL b p.2 k).map nV) → Ext [] H H' → Q (.ref t) H'
theorem ok_led_to (T : Tx K mg) : FnOk P w K mg base CX0 2 T.led_to.f T.led_to.fd ["book", "state", "message", "many"] (sp_led_to K) := by
  refine T.led_to.F.ok sc_led_to (fun vs H Q E h => ?_) (fun cdv A outer s H vs Q E hr h => ?_)
  · obtain ⟨v, b, s, k, p, rfl, _⟩ := h; rfl
  · obtain ⟨v, b, st, k, p, rfl, hb, fb, hp, q⟩ := h
    obtain ⟨a, ls, rfl, ha, hls⟩ := id hb
    refine ⟨_, (pss_cons (ps_if (pt_cmpR op_eq (pv 3) pe_int (nomark _))
        (pss_one (ps_ret (pe_tup pa_nil)))
        pss_nil)
      (pss_one (ps_ret (pe_call (ok_reach T) (hr.mono (by decide)) (by rfl) T.reach.g T.reach.F.kp T.reach.b .nil pass0 (pa_cons (pv 0) (pa_cons (pe_dget (hu_of hr) (pe_callTy (call_dictT rfl) (by rfl) T.n_dict (by decide +kernel) (pa_cons (pe_ix ix_tup (pv 0) (pv 1) (fun _ _ => rfl)) pa_nil)) (pv 2) (fun _ _ => rfl)) (pa_cons (pe_op op_sub (pv 3) pe_int) pa_nil))))))), ?_⟩
    refine ⟨_, rfl, rfl, _, rfl, ?_⟩
    have e0 : decide (V.int (k : Int) = V.int 0) = decide (k = 0) := by
      rw [dec_int]
      refine decide_eq_decide.mpr ?_
      omega
    rw [e0]
    refine ite2 (fun z => ?_) (fun z => ?_)
    · have z := of_decide_eq_true z
      subst z
      exact ⟨Nat.zero_le _, fun t ht => q t _ (.of upd_same) (.new ht)⟩
    · have z : ¬ k = 0 := fun y => z (decide_eq_true y)
      have hs : st < b.length := by
        by_cases h : st < b.length
        · exact h
        · rw [mvs_out (by omega)] at hp
          cases hp
      obtain ⟨u, hu, c, ps, rfl, hc, hps⟩ := Paired.get hls (mvs_lt hs)
      have nd := rise_nd (fb.ok hs).rise
      have pk : Paired (fun p kv => SqT K H p [kV kv.1, kv.2]) ps ((mvs b st).map fun q => ((kN q.1, V.int q.2) : Key × V)) := by
        clear nd hu hc
        generalize mvs b st = m at hps
        clear hp
        induction hps with
        | nil => exact .nil
        | cons r _ ih => exact .cons r ih
      refine ⟨_, rfl, _, rfl, _, rfl, a, _, _, _, rfl, rfl, ha, atI_nat hu, c, ps, _, rfl, hc, pk, fun d hd => ?_⟩
      refine ⟨_, rfl, d, .int p.2, rfl, ?_, _, rfl, _, _, rfl, rfl, ?_⟩
      · rw [mergeK_nd _ [] (by simpa using nd)]
        have hm : (kN p.1, V.int p.2) ∈ (mvs b st).map (fun q => ((kN q.1, V.int q.2) : Key × V)) := List.mem_map.mpr ⟨p, hp, rfl⟩
        have := DGet.k (k := kN p.1) (upd_same (H := H) (a := d) (o := .dK ([] ++ (mvs b st).map fun q => ((kN q.1, V.int q.2) : Key × V))))
        rw [List.nil_append, valV_nd nd hm] at this
        exact this
      · have e1 : Ext [] H (upd H d (.dK (mergeK [] ((mvs b st).map fun q => ((kN q.1, V.int q.2) : Key × V))))) := .new hd
        refine ⟨.ref a, b, p.2, k - 1, ?_, hb.ext0 e1, fb, fb.to hp, fun t H' ht e => q t H' ?_ (e1.trans e)⟩
        · have : ((k : Int)) - 1 = ((k - 1 : Nat) : Int) := by omega
          exact congrArg (fun z : Int => [V.ref a, V.int p.2, V.int z]) this
        · unfold ledL
          rw [if_neg z]
          exact ht
theorem sc_ways_back : FnScope ["book", "state", "message", "to"] ["book", "state"] (defScope s_ways_back) := ⟨rfl, rfl, rfl, by decide +kernel, rfl, by decide +kernel, by decide +kernel⟩
def sp_ways_back (K : PySem.W.Frag) : Sp := fun vs H Q _ => ∃ (v : V) (b : Book) (s : Nat), vs = [v, .int s] ∧ BkV K H v b ∧ FormB b ∧ s < b.length ∧ ∀ H', Ext [] H H' → Q (.int (waysM b s)) H'
theorem ok_ways_back (T : Tx K mg) : FnOk P w K mg base CX0 2 T.ways_back.f T.ways_back.fd ["book", "state"] (sp_ways_back K) := by
  refine T.ways_back.F.ok sc_ways_back (fun vs H Q E h => ?_) (fun cdv A outer s H vs Q E hr h => ?_)
  · obtain ⟨v, b, s, rfl, _⟩ := h; rfl
  · obtain ⟨v, b, st, rfl, hb, fb, hs, q⟩ := h
    obtain ⟨a, ls, rfl, ha, hls⟩ := id hb
    have llen := Paired.len hls
    obtain ⟨u, hu, c, ps, rfl, hc, hps⟩ := Paired.get hls (mvs_lt hs)
    have plen := Paired.len hps
    have five := (fb.ok hs).few
    refine ⟨_, (pss_one (ps_ret (pe_callB call_len_seq (by rfl) T.n_len PySem.boot_len (pa_cons (pe_lc (own := [("message", 2), ("to", 3)]) rfl sc_ways_back.nd (pi_tup (pe_ix ix_tup (pv 0) (pv 1) (fun _ _ => rfl))) (blkOk_by (own := [("message", 2), ("to", 3)]) (N := ["book", "state", "message", "to"]) (sc := defScope s_ways_back) (by decide +kernel)) (fun _ _ _ _ _ => (pg_tupK (n := 2) K rfl (pgs_cons (pg_name (i := 2) sc_ways_back.nd rfl (.inl rfl)) (pgs_cons (pg_name (i := 3) sc_ways_back.nd rfl (.inl rfl)) pgs_nil)))) (fun _ _ _ _ _ => pts_one (pt_mid (pt_cmpR (op_in_seqK K) (pv 1) (pe_call (ok_reach T) (hr.mono (by decide)) (by rfl) T.reach.g T.reach.F.kp T.reach.b .nil pass0 (pa_cons (pv 0) (pa_cons (pv 3) (pa_cons (pe_callB (call_len_seqK K) (by rfl) T.n_len PySem.boot_len (pa_cons (pv 0) pa_nil)) pa_nil)))) (by rfl)))) (fun _ _ _ _ _ => (pv 2))) pa_nil)))), ?_⟩
    refine ⟨_, rfl, _, rfl, a, _, _, _, rfl, rfl, ha, atI_nat hu, c, rfl, ⟨_, hc.sq⟩, fun D hD => ?_⟩
    refine lc_tup (K := K) (a := c) (xs := ps.map V.ref) (fun i H' => ∃ xs : List V, H' D = some (.lst xs) ∧ xs.length = (((mvs b st).take i).filter fun p => decide (st ∈ reachL b p.2 b.length)).length ∧ Ext [] H H') ⟨[], upd_same, rfl, .new hD⟩ (fun i H' _ ⟨_, _, _, e⟩ => (e.tz Lsts.nil hc).sq) ?_ ?_
    · rintro i v H' hv ⟨xs, hX, hxl, e⟩
      obtain ⟨g, hg, rfl⟩ := map_at hv
      obtain ⟨p, hp, hcp⟩ := Paired.get' hps hg
      have hm := List.mem_of_getElem? hp
      refine ⟨g, _, rfl, hcp.ext0 e, rfl, _, _, rfl, _, _, rfl, rfl, rfl, ?_⟩
      refine ⟨fun x H3 => x = decide (st ∈ reachL b p.2 b.length) ∧ Ext [] H' H3, ?_, ?_⟩
      · refine ⟨_, rfl, _, rfl, _, rfl, _, rfl, a, _, rfl, .inr (e.tup Lsts.nil ha), .ref a, b, p.2, b.length, by rw [llen]; rfl, hb.ext0 e, fb, fb.to hm, fun t H3 ht e3 => ?_⟩
        exact ⟨t, _, rfl, .inr ht, rfl, flat_nV _, _, rfl, inV_nV st _, e3⟩
      · rintro x H3 ⟨rfl, e3⟩
        have h3 := e3.at hX (by simp)
        refine ifB (fun hf => ?_) (fun hf => ?_)
        · refine ⟨_, rfl, _, h3, ?_, xs ++ [.int p.1], upd_same, ?_, (e.trans e3).put hD⟩
          · rw [hxl]
            refine small1000 (Nat.le_trans (List.length_filter_le _ _) ?_)
            rw [List.length_take]
            omega
          · rw [List.length_append, hxl, filter_take _ hp, hf]
            simp
        · refine ⟨xs, h3, ?_, e.trans e3⟩
          rw [hxl, filter_take _ hp, hf]
          simp
    · rintro H' ⟨xs, hX, hxl, e⟩
      rw [List.length_map, plen, List.take_length] at hxl
      refine ⟨D, xs, rfl, .inl (.of hX), ?_⟩
      have := q H' e
      unfold waysM at this
      rw [← hxl] at this
      exact this
theorem sc_leading_to : FnScope ["book", "state", "window", "goals", "out", "message", "to", "ends", "end"] ["book", "state", "window", "goals"] (defScope s_leading_to) := ⟨rfl, rfl, rfl, by decide +kernel, rfl, by decide +kernel, by decide +kernel⟩
def sp_leading_to (K : PySem.W.Frag) : Sp := fun vs H Q _ => ∃ (v : V) (b : Book) (s W : Nat) (g : Addr) (goals : List Nat), vs = [v, .int s, .int W, .ref g] ∧ BkV K H v b ∧ FormB b ∧ s < b.length ∧ 1 ≤ W ∧ SqL K H g (goals.map nV) ∧ ∀ (t : Addr) (H' : Hp), H' t = some (.lst ((leadM b W s goals).map nV)) → Ext [] H H' → Q (.ref t) H'
theorem ok_leading_to (T : Tx K mg) : FnOk P w K mg base CX0 3 T.leading_to.f T.leading_to.fd ["book", "state", "window", "goals"] (sp_leading_to K) := by
  refine T.leading_to.F.ok sc_leading_to (fun vs H Q E h => ?_) (fun cdv A outer s H vs Q E hr h => ?_)
  · obtain ⟨v, b, s, W, g, goals, rfl, _⟩ := h; rfl
  · obtain ⟨v, b, st, W, g, goals, rfl, hb, fb, hs, hW, hg, q⟩ := h
    obtain ⟨a, ls, rfl, ha, hls⟩ := id hb
    obtain ⟨u, hu, c, ps, rfl, hc, hps⟩ := Paired.get hls (mvs_lt hs)
    have plen := Paired.len hps
    have five := (fb.ok hs).few
    have h8 := fb.eight
    refine ⟨_, (pss_cons (ps_set (i := 4) sc_leading_to.nd rfl (.inl rfl) (pe_lst pa_nil))
      (pss_cons (ps_for PassesOwn.never rfl (pi_tup (pe_ix ix_tup (pv 0) (pv 1) (fun _ _ => rfl))) (pg_tup rfl (pgs_cons (pg_name (i := 5) sc_leading_to.nd rfl (.inl rfl)) (pgs_cons (pg_name (i := 6) sc_leading_to.nd rfl (.inl rfl)) pgs_nil)))
        (pss_cons (ps_set (i := 7) sc_leading_to.nd rfl (.inl rfl) (pe_call (ok_led_to T) (hr.mono (by decide)) (by rfl) T.led_to.g T.led_to.F.kp T.led_to.b .nil pass0 (pa_cons (pv 0) (pa_cons (pv 1) (pa_cons (pv 5) (pa_cons (pe_op op_sub (pv 2) pe_int) pa_nil))))))
        (pss_one (ps_if (pt_val (pe_callB (cr_any rfl) (by rfl) T.n_any (by decide +kernel) (pa_cons (pe_lc (own := [("end", 8)]) rfl sc_leading_to.nd (pi_tup (pv 7)) (blkOk_by (own := [("end", 8)]) (N := ["book", "state", "window", "goals", "out", "message", "to", "ends", "end"]) (sc := defScope s_leading_to) (by decide +kernel)) (fun _ _ _ _ _ => (pg_name (i := 8) sc_leading_to.nd rfl (.inl rfl))) (fun _ _ _ _ _ => pts_nil) (fun _ _ _ _ _ => (pe_cmpR (op_in_seqK K) (pv 8) (pv 3) (by rfl)))) pa_nil)))
          (pss_one (ps_expr (pe_bm PySem.F.plainAttrs_list PySem.F.slot_list_append PySem.F.type_list_append mt_append (pv 4) (pa_cons (pv 5) pa_nil))))
          pss_nil))))
      (pss_one (ps_ret (pv 4))))), ?_⟩
    refine ⟨Nat.zero_le _, fun o ho => ?_⟩
    have e0 : Ext [] H (upd H o (.lst [])) := .new ho
    refine ⟨_, rfl, _, rfl, a, _, _, _, rfl, rfl, e0.tup Lsts.nil ha, atI_nat hu, c, rfl, ⟨_, (e0.tz Lsts.nil hc).sq⟩, ?_⟩
    refine for_tup (K := K) (a := c) (xs := ps.map V.ref) (fun i σ H' => ∃ y5 y6 y7 : Option V, σ = [some (.ref a), some (.int st), some (.int W), some (.ref g), some (.ref o), y5, y6, y7, none] ∧ H' o = some (.lst (((((mvs b st).take i).filter fun p => (ledL b p.2 (W - 1)).any fun k => decide (k ∈ goals)).map (·.1)).map nV)) ∧ Ext [] H H')
      ⟨_, _, _, rfl, upd_same, e0⟩ (fun i σ H' _ ⟨_, _, _, _, _, e⟩ => (e.tz Lsts.nil hc).sq) ?_ ?_
    · rintro i v σ H' hv ⟨y5, y6, y7, rfl, hO, e⟩
      obtain ⟨gg, hgg, rfl⟩ := map_at hv
      obtain ⟨p, hp, hcp⟩ := Paired.get' hps hgg
      have hm := List.mem_of_getElem? hp
      refine ⟨gg, _, rfl, hcp.ext0 e, rfl, _, _, rfl, _, _, rfl, rfl, ?_⟩
      refine ⟨_, rfl, _, rfl, _, rfl, _, rfl, _, _, rfl, rfl, .ref a, b, st, W - 1, p, ?_, hb.ext0 e, fb, hm, fun t H1 ht e1 => ?_⟩
      · have : ((W : Int)) - 1 = ((W - 1 : Nat) : Int) := by omega
        exact congrArg (fun z : Int => [V.ref a, V.int st, V.int p.1, V.int z]) this
      -- any([..])
      have llt := ledL_lt (m := W - 1) (fb.to hm)
      refine ⟨_, rfl, t, rfl, ⟨_, ht⟩, fun D hD => ?_⟩
      have hO1 := e1.at hO (by simp)
      refine lc_tup (K := K) (a := t) (xs := (ledL b p.2 (W - 1)).map nV) (fun j H2 => H2 D = some (.lst ((((ledL b p.2 (W - 1)).take j).map fun k => decide (k ∈ goals)).map V.bl)) ∧ Ext [] H1 H2) ⟨upd_same, .new hD⟩ (fun j H2 _ ⟨_, e⟩ => e.tup Lsts.nil ht) ?_ ?_
      · rintro j v H2 hv ⟨hD2, e2⟩
        obtain ⟨k, hk, rfl⟩ := map_at hv
        refine ⟨rfl, yes ?_⟩
        refine ⟨_, rfl, _, rfl, g, _, rfl, .inl (((e.trans e1).trans e2).frz (by simp) hg), rfl, flat_nV _, _, hD2, ?_, ?_, e2.put hD⟩
        · rw [List.length_map, List.length_map, List.length_take]
          have l1 : (ledL b p.2 (W - 1)).length ≤ b.length := by
            unfold ledL
            split
            · exact Nat.zero_le _
            · exact wiL_len (fb.to hm) _
          exact small1000 (by omega)
        · rw [upd_same, List.take_add_one, hk, List.map_append, List.map_append]
          show _ = some (HO.lst (_ ++ [V.bl (decide (k ∈ goals))]))
          rw [← inV_nV]
          rfl
      · rintro H2 ⟨hD2, e2⟩
        rw [List.length_map, List.take_length] at hD2
        have hO2 := e2.at hO1 (by simp)
        have ee := (e.trans e1).trans e2
        refine ⟨D, _, rfl, .of hD2, _, rfl, ?_⟩
        have ean : (((ledL b p.2 (W - 1)).map fun k => decide (k ∈ goals)).any id) = (ledL b p.2 (W - 1)).any fun k => decide (k ∈ goals) := by rw [List.any_map]; rfl
        rw [ean]
        have oD : o ≠ D := ne_of_none hO1 hD
        refine ifB (fun hf => ?_) (fun hf => ?_)
        · refine ⟨_, rfl, .inl ⟨rfl, _, .of hO2⟩, _, rfl, o, _, _, rfl, rfl, hO2, ?_, _, _, _, rfl, ?_, ee.put ho⟩
          · rw [List.length_map, List.length_map]
            refine small1000 (Nat.le_trans (List.length_filter_le _ _) ?_)
            rw [List.length_take]
            omega
          · rw [upd_same, filter_take _ hp, hf]
            simp
        · refine ⟨_, _, _, rfl, ?_, ee⟩
          rw [hO2, filter_take _ hp, hf]
          simp
    · rintro σ H' ⟨y5, y6, y7, rfl, hO, e⟩
      rw [List.length_map, plen, List.take_length] at hO
      exact ⟨_, rfl, q o H' hO e⟩
theorem sc_made_window : FnScope ["thing"] ["thing"] (defScope s_made_window) := ⟨rfl, rfl, rfl, by decide +kernel, rfl, by decide +kernel, by decide +kernel⟩
def sp_made_window : Sp := fun vs H Q _ => ∃ W : Nat, vs = [.int W] ∧ 1 ≤ W ∧ Q (.int W) H
theorem ok_made_window (T : Tx K mg) : FnOk P w K mg base CX0 2 T.made_window.f T.made_window.fd ["thing"] sp_made_window := by
  refine T.made_window.F.ok sc_made_window (fun vs H Q E h => ?_) (fun cdv A outer s H vs Q E hr h => ?_)
  · obtain ⟨W, rfl, _⟩ := h; rfl
  · obtain ⟨W, rfl, hW, q⟩ := h
    refine ⟨_, (pss_cons (ps_if (PW.pt (pw_and (pt_cmpR op_notN (pv 0) pe_non (nomark _)) (pw_and1 (PW.pt (pw_or (pt_not (pt_val (pe_call (ok_whole T) (hr.mono (by decide)) (by rfl) T.whole.g T.whole.F.kp T.whole.b .nil pass0 (pa_cons (pv 0) pa_nil)))) (pw_or1 (pt_cmpR op_lt (pv 0) pe_int (nomark _))))))))
        (pss_one ps_never)
        pss_nil)
      (pss_one (ps_ret (pv 0)))), ?_⟩
    refine ⟨_, rfl, rfl, _, rfl, iteNS' (by intro z; cases z) ?_⟩
    refine ⟨_, rfl, _, rfl, _, rfl, notF rfl ⟨_, rfl, _, _, rfl, rfl, _, rfl, ?_⟩⟩
    rw [decide_eq_false (by omega)]
    exact iteF ⟨_, rfl, q⟩
theorem sc_check_number : FnScope ["window"] ["window"] (defScope s_check_number) := ⟨rfl, rfl, rfl, by decide +kernel, rfl, by decide +kernel, by decide +kernel⟩
def sp_check_number : Sp := fun vs H Q _ => ∃ W : Nat, vs = [.int W] ∧ 1 ≤ W ∧ Q .non H
theorem ok_check_number (T : Tx K mg) : FnOk P w K mg base CX0 3 T.check_number.f T.check_number.fd ["window"] sp_check_number := by
  refine T.check_number.F.ok sc_check_number (fun vs H Q E h => ?_) (fun cdv A outer s H vs Q E hr h => ?_)
  · obtain ⟨W, rfl, _⟩ := h; rfl
  · obtain ⟨W, rfl, hW, q⟩ := h
    refine ⟨_, (pss_one (ps_if (pt_cmpR op_isN (pe_call (ok_made_window T) (hr.mono (by decide)) (by rfl) T.made_window.g T.made_window.F.kp T.made_window.b .nil pass0 (pa_cons (pv 0) pa_nil)) pe_non (nomark _))
        (pss_one ps_never)
        pss_nil)), ?_⟩
    refine ⟨_, rfl, W, rfl, hW, rfl, _, rfl, ?_⟩
    rw [decide_eq_false (by intro z; cases z)]
    exact iteF q
end
end Nv
set_option Elab.async false
set_option linter.all false
set_option maxRecDepth 100000
namespace Nv
open PySem PySem.Spec PyProof.Rows L2
section
variable {P : Program} {w : World} {K : PySem.W.Frag} {mg : Str → Option Value} {base : Heap}
/-! ### ranks, lasting forks, the least number -/
def oV : Option Int → V
  | none => .non
  | some i => .int i
theorem sc_ranks_for : FnScope ["book", "window", "rank_of", "standing", "turn", "falling", "fork"] ["book", "window"] (defScope s_ranks_for) := ⟨rfl, rfl, rfl, by decide +kernel, rfl, by decide +kernel, by decide +kernel⟩
def sp_ranks_for (K : PySem.W.Frag) : Sp := fun vs H Q _ => ∃ (v : V) (b : Book) (W : Nat), vs = [v, .int W] ∧ BkV K H v b ∧ FormB b ∧ 1 ≤ W ∧ ∀ (res : List (Option Int)) (fin : List Nat) (t : Addr) (H' : Hp), LastM b W res fin → SqT K H' t (res.map oV) → Ext [] H H' → Q (.ref t) H'
theorem ok_ranks_for (T : Tx K mg) : FnOk P w K mg base CX0 4 T.ranks_for.f T.ranks_for.fd ["book", "window"] (sp_ranks_for K) := by
  refine T.ranks_for.F.ok sc_ranks_for (fun vs H Q E h => ?_) (fun cdv A outer s H vs Q E hr h => ?_)
  · obtain ⟨v, b, W, rfl, _⟩ := h; rfl
  · obtain ⟨v, b, W, rfl, hb, fb, hW, q⟩ := h
    obtain ⟨a, ls, rfl, ha, hls⟩ := id hb
    have llen := Paired.len hls
    have h8 := fb.eight
    refine ⟨_, (pss_cons (ps_set (i := 2) sc_ranks_for.nd rfl (.inl rfl) (pe_op op_rep (pe_lst (pa_cons pe_non pa_nil)) (pe_callB call_len_seq (by rfl) T.n_len PySem.boot_len (pa_cons (pv 0) pa_nil))))
      (pss_cons (ps_set (i := 3) sc_ranks_for.nd rfl (.inr rfl) (pe_callTy call_list_of (by rfl) T.n_list (by decide +kernel) (pa_cons (pe_call (ok_fork_states T) (hr.mono (by decide)) (by rfl) T.fork_states.g T.fork_states.F.kp T.fork_states.b .nil pass0 (pa_cons (pv 0) pa_nil)) pa_nil)))
      (pss_cons (ps_set (i := 4) sc_ranks_for.nd rfl (.inl rfl) pe_int)
      (pss_cons (ps_while PassesOwn.never (pt_val pe_bl)
        (pss_cons (ps_set (i := 5) sc_ranks_for.nd rfl (.inr rfl) (pe_lc (own := [("fork", 6)]) rfl sc_ranks_for.nd (pi_list (pv 3)) (blkOk_by (own := [("fork", 6)]) (N := ["book", "window", "rank_of", "standing", "turn", "falling", "fork"]) (sc := defScope s_ranks_for) (by decide +kernel)) (fun _ _ _ _ _ => (pg_name (i := 6) sc_ranks_for.nd rfl (.inl rfl))) (fun _ _ _ _ _ => pts_one (pt_mid (pt_cmpR op_lt (pe_callB (call_len_seqK K) (by rfl) T.n_len PySem.boot_len (pa_cons (pe_call (ok_leading_to T) (hr.mono (by decide)) (by rfl) T.leading_to.g T.leading_to.F.kp T.leading_to.b .nil pass0 (pa_cons (pv 0) (pa_cons (pv 6) (pa_cons (pv 1) (pa_cons (pv 3) pa_nil))))) pa_nil)) pe_int (nomark _)))) (fun _ _ _ _ _ => (pv 6))))
        (pss_cons (ps_if (pt_not (pt_truth (pv 5) (by intro _; rfl)))
          (pss_one ps_break)
          pss_nil)
        (pss_cons (ps_for PassesOwn.never rfl (pi_list (pv 5)) (pg_name (i := 6) sc_ranks_for.nd rfl (.inl rfl))
          (pss_one (ps_asg (pv 4) (pg_sub (pv 2) (pv 6) set_list))))
        (pss_cons (ps_set (i := 3) sc_ranks_for.nd rfl (.inr rfl) (pe_lc (own := [("fork", 6)]) rfl sc_ranks_for.nd (pi_list (pv 3)) (blkOk_by (own := [("fork", 6)]) (N := ["book", "window", "rank_of", "standing", "turn", "falling", "fork"]) (sc := defScope s_ranks_for) (by decide +kernel)) (fun _ _ _ _ _ => (pg_name (i := 6) sc_ranks_for.nd rfl (.inl rfl))) (fun _ _ _ _ _ => pts_one (pt_mid (pt_cmpR (op_notIn_seqK K) (pv 6) (pv 5) (by rfl)))) (fun _ _ _ _ _ => (pv 6))))
        (pss_one (ps_aug (i := 4) sc_ranks_for.nd rfl (.inl rfl) pe_int ip_add)))))))
      (pss_cons (ps_for PassesOwn.never rfl (pi_list (pv 3)) (pg_name (i := 6) sc_ranks_for.nd rfl (.inl rfl))
        (pss_one (ps_asg (pe_un un_neg pe_int) (pg_sub (pv 2) (pv 6) set_list))))
      (pss_one (ps_ret (pe_callTy call_tupZ (by rfl) T.n_tuple (by decide +kernel) (pa_cons (pv 2) pa_nil))))))))), ?_⟩
    -- rank_of = [None] * len(book)
    refine ⟨(by show 1 ≤ sizeLine; decide), fun x hx => ?_⟩
    have e0 : Ext [] H (upd H x (.lst [.non])) := .new hx
    refine ⟨_, rfl, a, _, rfl, .inr (e0.tup Lsts.nil ha), x, _, _, rfl, rfl, upd_same, by omega, by omega, ?_, fun ro hro => ?_⟩
    · rw [forTo llen]
      exact Nat.le_of_lt (small1000 (by show 1 * b.length ≤ 1000; omega))
    rw [forTo llen]
    have e1 := e0.trans (Ext.new (L := []) (o := .lst (List.replicate b.length [V.non]).flatten) hro)
    have hro0 : H ro = none := e0.free hro
    have hr1 : upd (upd H x (.lst [.non])) ro (.lst (List.replicate b.length [V.non]).flatten) ro = some (.lst ((List.replicate b.length (none : Option Int)).map oV)) := by
      rw [upd_same, List.map_replicate]
      congr 2
      clear hro e1 llen h8 fb hb q hls ha
      induction b.length with
      | zero => rfl
      | succ n ih => rw [List.replicate_succ, List.flatten_cons, ih, List.replicate_succ]; rfl
    generalize upd (upd H x (.lst [.non])) ro (.lst (List.replicate b.length [V.non]).flatten) = H1 at *
    -- standing = list(fork_states(book))
    refine ⟨_, rfl, .ref a, b, rfl, hb.ext0 e1, h8, fun t H2 ht e2 => ?_⟩
    refine ⟨t, _, rfl, .inr ht, fun so hso => ?_⟩
    have e3 := (e1.trans e2).put2 (o := .lst ((forksM b).map nV)) hso
    have hr2 := e2.at hr1 (by simp)
    have hso0 : H so = none := (e1.trans e2).free hso
    have ros : ro ≠ so := ne_of_none hr2 hso
    -- the rounds
    have fl : (forksM b).length ≤ b.length := by
      unfold forksM
      refine Nat.le_trans (List.length_filter_le _ _) ?_
      rw [List.length_range]
      exact Nat.le_refl _
    refine ⟨fun m σ H' => ∃ (turn : Nat) (st : List Nat) (r : List (Option Int)) (so : Addr) (y5 y6 : Option V), σ = [some (.ref a), some (.int W), some (.ref ro), some (.ref so), some (.int turn), y5, y6] ∧ m = st.length ∧ st.length ≤ 8 ∧ (∀ k ∈ st, k < b.length) ∧ H' ro = some (.lst (r.map oV)) ∧ r.length = b.length ∧
      H' so = some (.lst (st.map nV)) ∧ ro ≠ so ∧ (∀ res fin, Rk b W turn st r res fin → LastM b W res fin) ∧ Ext [] H H',
      ⟨_, 0, forksM b, List.replicate b.length none, so, _, _, rfl, rfl, by omega, fun k hk => (mem_filt.mp hk).1, by rw [upd_ne ros]; exact hr2, List.length_replicate, upd_same, ros, fun _ _ h => h, e3⟩, ?_⟩
    clear e3 hr2 hso0 ros hso ht e2 hr1
    rintro m σ H3 ⟨turn, st, r, so, y5, y6, rfl, rfl, st8, stlt, hR, rlen, hS, ros, hrk, e⟩
    refine ⟨true, rfl, iteT ⟨fun σ H' => ∃ (turn : Nat) (st' : List Nat) (r : List (Option Int)) (so : Addr) (y5 y6 : Option V), σ = [some (.ref a), some (.int W), some (.ref ro), some (.ref so), some (.int turn), y5, y6] ∧ st'.length < st.length ∧ (∀ k ∈ st', k < b.length) ∧ H' ro = some (.lst (r.map oV)) ∧ r.length = b.length ∧
      H' so = some (.lst (st'.map nV)) ∧ ro ≠ so ∧ (∀ res fin, Rk b W turn st' r res fin → LastM b W res fin) ∧ Ext [] H H', ?_, ?_⟩⟩
    · rintro σ' H' ⟨turn, st', r, so, y5, y6, rfl, hlt, h1, h2, h3, h4, h5, h6, h7⟩
      exact ⟨_, hlt, turn, st', r, so, _, _, rfl, rfl, by omega, h1, h2, h3, h4, h5, h6, h7⟩
    -- falling
    refine ⟨_, rfl, so, rfl, ⟨_, .of hS⟩, fun fo hfo => ?_⟩
    have rofo : ro ≠ fo := ne_of_none hR hfo
    have sofo : so ≠ fo := ne_of_none hS hfo
    refine filt_list (K := K) (a := so) (l := st) (fun f => decide ((leadM b W f st).length < 2)) hfo (.of hS) (by omega) (fun v => rfl) (fun v => rfl) (fun k H' hk e2 => ?_) (fun H4 hF e2 => ?_)
    · refine ⟨_, rfl, _, rfl, _, rfl, _, rfl, .ref a, b, k, W, so, st, rfl, hb.ext0 (e.trans e2), fb, stlt k hk, hW, .of (e2.at hS (by simp)), fun t H5 ht e5 => ?_⟩
      refine ⟨t, _, rfl, .inl (.of ht), _, _, rfl, rfl, _, rfl, ?_, e5⟩
      rw [List.length_map]
      refine decide_eq_decide.mpr ?_
      omega
    · have e3 := e.trans e2
      have hR4 := e2.at hR (by simp)
      have hS4 := e2.at hS (by simp)
      -- if not falling: break
      have nR : H ro = none := hro0
      refine ⟨_, rfl, _, .inl ⟨_, .of hF, rfl⟩, ?_⟩
      have em : ((fallM b W st).map nV).isEmpty = (fallM b W st).isEmpty := by cases fallM b W st <;> rfl
      show (if (!(!((fallM b W st).map nV).isEmpty)) = true then _ else _)
      rw [em, Bool.not_not]
      refine ifB (fun hemp => ?_) (fun hemp => ?_)
      · -- the end
        have hemp : fallM b W st = [] := List.isEmpty_iff.mp hemp
        refine ⟨_, rfl, so, rfl, ⟨_, .of hS4⟩, for_list (K := K) (a := so) (xs := st.map nV) (fun k σ H' => ∃ y6 : Option V, σ = [some (.ref a), some (.int W), some (.ref ro), some (.ref so), some (.int turn), some (.ref fo), y6] ∧ H' ro = some (.lst ((setAll r (st.take k) (-1)).map oV)) ∧ H' so = some (.lst (st.map nV)) ∧ Ext [] H H')
          ⟨_, rfl, hR4, hS4, e3⟩ (fun k σ H' _ ⟨_, _, _, h, _⟩ => .of h) ?_ ?_⟩
        · rintro k v σ H' hv ⟨y6, rfl, h1, h2, h3⟩
          obtain ⟨f, hf, rfl⟩ := map_at hv
          refine ⟨1, rfl, _, rfl, _, rfl, ro, _, _, f, rfl, rfl, h1, ixNat ?_, _, rfl, ?_, ?_, h3.put nR⟩
          · rw [List.length_map, setAll_len, rlen]
            exact stlt f (List.mem_of_getElem? hf)
          · rw [upd_same, List.take_add_one, hf]
            show _ = some (HO.lst ((setAll r (st.take k ++ [f]) (-1)).map oV))
            rw [setAll_snoc, List.map_set]
            rfl
          · rw [upd_ne ros.symm]
            exact h2
        · rintro σ H' ⟨y6, rfl, h1, h2, h3⟩
          rw [List.length_map, List.take_length] at h1
          refine ⟨_, rfl, ro, _, rfl, .of h1, fun t H5 ht hH => ?_⟩
          obtain ⟨o, _, rfl⟩ := hH
          exact q _ st t _ (hrk _ _ (.stop hemp)) (.inl (.inr ⟨o, upd_same⟩)) (h3.put2 ht)
      · have hemp : fallM b W st ≠ [] := fun z => by rw [z] at hemp; cases hemp
        have fsub : ∀ k ∈ fallM b W st, k < b.length := fun k hk => stlt k (List.mem_filter.mp hk).1
        -- for fork in falling
        refine ⟨_, rfl, fo, rfl, ⟨_, .of hF⟩, for_list (K := K) (a := fo) (xs := (fallM b W st).map nV) (fun k σ H' => ∃ y6 : Option V, σ = [some (.ref a), some (.int W), some (.ref ro), some (.ref so), some (.int turn), some (.ref fo), y6] ∧ H' ro = some (.lst ((setAll r ((fallM b W st).take k) turn).map oV)) ∧ H' so = some (.lst (st.map nV)) ∧ H' fo = some (.lst ((fallM b W st).map nV)) ∧ Ext [] H H')
          ⟨_, rfl, hR4, hS4, hF, e3⟩ (fun k σ H' _ ⟨_, _, _, _, h, _⟩ => .of h) ?_ ?_⟩
        · rintro k v σ H' hv ⟨y6, rfl, h1, h2, h2', h3⟩
          obtain ⟨f, hf, rfl⟩ := map_at hv
          refine ⟨_, rfl, _, rfl, _, rfl, ro, _, _, f, rfl, rfl, h1, ixNat ?_, _, rfl, ?_, ?_, ?_, h3.put nR⟩
          · rw [List.length_map, setAll_len, rlen]
            exact fsub f (List.mem_of_getElem? hf)
          · rw [upd_same, List.take_add_one, hf]
            show _ = some (HO.lst ((setAll r ((fallM b W st).take k ++ [f]) turn).map oV))
            rw [setAll_snoc, List.map_set]
            rfl
          · rw [upd_ne ros.symm]
            exact h2
          · rw [upd_ne rofo.symm]
            exact h2'
        · rintro σ H5 ⟨y6, rfl, h1, h2, h2', h3⟩
          rw [List.length_map, List.take_length] at h1
          -- standing
          refine ⟨_, rfl, so, rfl, ⟨_, .of h2⟩, fun s2 hs2 => ?_⟩
          have ros2 : ro ≠ s2 := ne_of_none h1 hs2
          refine filt_list (K := K) (a := so) (l := st) (fun f => !decide (f ∈ fallM b W st)) hs2 (.of h2) (by omega) (fun v => rfl) (fun v => rfl) (fun k H' hk e2 => ?_) (fun H6 hS6 e6 => ?_)
          · refine ⟨_, rfl, _, rfl, fo, _, rfl, .inl (.of (e2.at h2' (by simp))), rfl, flat_nV _, _, rfl, ?_, .refl⟩
            show (!inV (nV k) ((fallM b W st).map nV)) = _
            rw [inV_nV]
          · refine ⟨_, rfl, _, _, rfl, rfl, turn + 1, restM b W st, setAll r (fallM b W st) turn, s2, _, _, rfl, rest_len hemp, fun k hk => stlt k (List.mem_filter.mp hk).1, e6.at h1 (by simp), by rw [setAll_len]; exact rlen, hS6, ros2, fun res fin h => hrk res fin (.go hemp h), h3.trans e6⟩
theorem sc_lasting_for : FnScope ["book", "window", "rank_of", "state"] ["book", "window"] (defScope s_lasting_for) := ⟨rfl, rfl, rfl, by decide +kernel, rfl, by decide +kernel, by decide +kernel⟩
def sp_lasting_for (K : PySem.W.Frag) : Sp := fun vs H Q _ => ∃ (v : V) (b : Book) (W : Nat), vs = [v, .int W] ∧ BkV K H v b ∧ FormB b ∧ 1 ≤ W ∧ ∀ (res : List (Option Int)) (fin : List Nat) (t : Addr) (H' : Hp), LastM b W res fin → SqT K H' t ((lastL b res).map nV) → Ext [] H H' → Q (.ref t) H'
theorem ok_lasting_for (T : Tx K mg) : FnOk P w K mg base CX0 5 T.lasting_for.f T.lasting_for.fd ["book", "window"] (sp_lasting_for K) := by
  refine T.lasting_for.F.ok sc_lasting_for (fun vs H Q E h => ?_) (fun cdv A outer s H vs Q E hr h => ?_)
  · obtain ⟨v, b, W, rfl, _⟩ := h; rfl
  · obtain ⟨v, b, W, rfl, hb, fb, hW, q⟩ := h
    have h8 := fb.eight
    refine ⟨_, (pss_cons (ps_set (i := 2) sc_lasting_for.nd rfl (.inr rfl) (pe_call (ok_ranks_for T) (hr.mono (by decide)) (by rfl) T.ranks_for.g T.ranks_for.F.kp T.ranks_for.b .nil pass0 (pa_cons (pv 0) (pa_cons (pv 1) pa_nil))))
      (pss_one (ps_ret (pe_callTy call_tupZ (by rfl) T.n_tuple (by decide +kernel) (pa_cons (pe_lc (own := [("state", 3)]) rfl sc_lasting_for.nd (pi_range1 (by rfl) T.n_range (pa_cons (pe_callB call_len_seq (by rfl) T.n_len PySem.boot_len (pa_cons (pv 0) pa_nil)) pa_nil)) (blkOk_by (own := [("state", 3)]) (N := ["book", "window", "rank_of", "state"]) (sc := defScope s_lasting_for) (by decide +kernel)) (fun _ _ _ _ _ => (pg_name (i := 3) sc_lasting_for.nd rfl (.inl rfl))) (fun _ _ _ _ _ => pts_one (pt_mid (pt_cmpR op_eq (pe_ix (ix_tupK K) (pv 2) (pv 3) (fun _ _ => rfl)) (pe_un un_neg pe_int) (nomark _)))) (fun _ _ _ _ _ => (pv 3))) pa_nil))))), ?_⟩
    refine ⟨_, rfl, _, rfl, v, b, W, rfl, hb, fb, hW, fun res fin t H1 hL ht e1 => ?_⟩
    obtain ⟨a, ls, rfl, ha, hls⟩ := hb.ext0 e1
    have llen := Paired.len hls
    have rl : res.length = b.length := by rw [rk_len hL, List.length_replicate]
    refine ⟨_, rfl, a, _, rfl, .inr ha, _, rfl, by omega, by omega, fun D hD => ?_⟩
    rw [forTo llen]
    refine filt_range (fun s => decide (res[s]? = some (some (-1)))) hD (by omega) (fun v => rfl) (fun v => rfl) (fun k H' hk e => ?_) (fun H' h e => ?_)
    · have hk2 : res[k]? = some res[k] := List.getElem?_eq_getElem (by omega)
      generalize res[k] = x at hk2
      refine ⟨_, rfl, _, rfl, t, _, _, _, rfl, rfl, e.tup Lsts.nil ht, atI_nat (at_map hk2), 1, rfl, by cases x <;> rfl, _, rfl, ?_, .refl⟩
      rw [hk2]
      refine decide_eq_decide.mpr ?_
      cases x with
      | none => exact ⟨fun z => (nomatch z), fun z => (nomatch z)⟩
      | some i =>
        constructor
        · intro z
          have z : i = -1 := V.int.inj z
          rw [z]
        · intro z
          have z : i = -1 := Option.some.inj (Option.some.inj z)
          rw [z]
          rfl
    · refine ⟨D, _, rfl, .of h, fun t2 H2 ht2 hH => ?_⟩
      obtain ⟨o, _, rfl⟩ := hH
      exact q res fin t2 _ hL (.inl (.inr ⟨o, upd_same⟩)) ((e1.trans e).put2 ht2)
theorem sc_lasting : FnScope ["book", "window"] ["book", "window"] (defScope s_lasting) := ⟨rfl, rfl, rfl, by decide +kernel, rfl, by decide +kernel, by decide +kernel⟩
def sp_lasting (K : PySem.W.Frag) : Sp := fun vs H Q _ => ∃ (v : V) (b : Book) (W : Nat), vs = [v, .int W] ∧ BkV K H v b ∧ OkB b ∧ 1 ≤ W ∧ ∀ (res : List (Option Int)) (fin : List Nat) (t : Addr) (H' : Hp), LastM b W res fin → SqT K H' t ((lastL b res).map nV) → Ext [] H H' → Q (.ref t) H'
theorem ok_lasting (T : Tx K mg) : FnOk P w K mg base CX0 6 T.lasting.f T.lasting.fd ["book", "window"] (sp_lasting K) := by
  refine T.lasting.F.ok sc_lasting (fun vs H Q E h => ?_) (fun cdv A outer s H vs Q E hr h => ?_)
  · obtain ⟨v, b, W, rfl, _⟩ := h; rfl
  · obtain ⟨v, b, W, rfl, hb, ok, hW, q⟩ := h
    refine ⟨_, (pss_cons (ps_expr (pe_call (ok_made_book T) (hr.mono (by decide)) (by rfl) T.made_book.g T.made_book.F.kp T.made_book.b .nil pass0 (pa_cons (pv 0) pa_nil)))
      (pss_cons (ps_expr (pe_call (ok_check_number T) (hr.mono (by decide)) (by rfl) T.check_number.g T.check_number.F.kp T.check_number.b .nil pass0 (pa_cons (pv 1) pa_nil)))
      (pss_one (ps_ret (pe_call (ok_lasting_for T) (hr.mono (by decide)) (by rfl) T.lasting_for.g T.lasting_for.F.kp T.lasting_for.b .nil pass0 (pa_cons (pv 0) (pa_cons (pv 1) pa_nil))))))), ?_⟩
    refine ⟨_, rfl, v, b, rfl, hb, ok, fun H1 e1 => ?_⟩
    refine ⟨_, rfl, W, rfl, hW, ?_⟩
    exact ⟨_, rfl, _, rfl, v, b, W, rfl, hb.ext0 e1, ok.toFormB, hW, fun res fin t H' hL ht e => q res fin t H' hL ht (e1.trans e)⟩
theorem sc_least_for : FnScope ["book", "window"] ["book", "window"] (defScope s_least_for) := ⟨rfl, rfl, rfl, by decide +kernel, rfl, by decide +kernel, by decide +kernel⟩
def sp_least_for (K : PySem.W.Frag) : Sp := fun vs H Q _ => ∃ (v : V) (b : Book) (W : Nat), vs = [v, .int W] ∧ BkV K H v b ∧ FormB b ∧ 1 ≤ W ∧ ∀ (res : List (Option Int)) (fin : List Nat) (H' : Hp), LastM b W res fin → Ext [] H H' → Q (.int (leastM b res)) H'
theorem ok_least_for (T : Tx K mg) : FnOk P w K mg base CX0 6 T.least_for.f T.least_for.fd ["book", "window"] (sp_least_for K) := by
  refine T.least_for.F.ok sc_least_for (fun vs H Q E h => ?_) (fun cdv A outer s H vs Q E hr h => ?_)
  · obtain ⟨v, b, W, rfl, _⟩ := h; rfl
  · obtain ⟨v, b, W, rfl, hb, fb, hW, q⟩ := h
    obtain ⟨a, ls, rfl, ha, hls⟩ := id hb
    obtain ⟨res0, fin0, hL0⟩ := rk_ex b W _ 0 (forksM b) (List.replicate b.length none) (Nat.le_refl _)
    obtain ⟨u, hu, c, ps, rfl, hc, hps⟩ := Paired.get hls (mvs_lt (b := b) (s := 0) fb.one)
    refine ⟨_, (pss_cons (ps_if (pt_not (pt_truth (pe_ix ix_tup (pv 0) pe_int (fun _ _ => rfl)) (by intro _; rfl)))
        (pss_one (ps_ret pe_int))
        pss_nil)
      (pss_cons (ps_if (pt_not (pt_truth (pe_call (ok_fork_states T) (hr.mono (by decide)) (by rfl) T.fork_states.g T.fork_states.F.kp T.fork_states.b .nil pass0 (pa_cons (pv 0) pa_nil)) (by intro _; rfl)))
        (pss_one (ps_ret pe_int))
        pss_nil)
      (pss_cons (ps_if (pt_cmpR op_isN (pv 1) pe_non (nomark _))
        (pss_one ps_never)
        pss_nil)
      (pss_cons (ps_if (pt_truth (pe_call (ok_lasting_for T) (hr.mono (by decide)) (by rfl) T.lasting_for.g T.lasting_for.F.kp T.lasting_for.b .nil pass0 (pa_cons (pv 0) (pa_cons (pv 1) pa_nil))) (by intro _; rfl))
        (pss_one (ps_ret pe_int))
        pss_nil)
      (pss_one (ps_ret pe_int)))))), ?_⟩
    refine ⟨_, rfl, a, _, _, _, rfl, rfl, ha, atI_nat (j := 0) hu, _, .inr (.inl ⟨_, hc.sq, rfl⟩), ?_⟩
    show (if (!(!(ps.map V.ref).isEmpty)) = true then _ else _)
    have em : (ps.map V.ref).isEmpty = (mvs b 0).isEmpty := by
      have plen := Paired.len hps
      cases ps <;> cases h : mvs b 0 <;> rw [h] at plen <;> simp at plen <;> rfl
    rw [em, Bool.not_not]
    refine ifB (fun z => ?_) (fun z => ?_)
    · have z : mvs b 0 = [] := List.isEmpty_iff.mp z
      have := q res0 fin0 H hL0 .refl
      unfold leastM at this
      rw [if_pos z] at this
      exact this
    · have z : mvs b 0 ≠ [] := fun y => by rw [y] at z; cases z
      refine ⟨_, rfl, .ref a, b, rfl, hb, fb.eight, fun t H1 ht e1 => ⟨_, .inr (.inl ⟨_, ht, rfl⟩), ?_⟩⟩
      show (if (!(!((forksM b).map nV).isEmpty)) = true then _ else _)
      have em : ((forksM b).map nV).isEmpty = (forksM b).isEmpty := by cases forksM b <;> rfl
      rw [em, Bool.not_not]
      refine ifB (fun y => ?_) (fun y => ?_)
      · have y : forksM b = [] := List.isEmpty_iff.mp y
        have := q res0 fin0 H1 hL0 e1
        unfold leastM at this
        rw [if_neg z, if_pos y] at this
        exact this
      · have y : forksM b ≠ [] := fun x => by rw [x] at y; cases y
        refine ⟨_, rfl, rfl, _, rfl, ?_⟩
        rw [decide_eq_false (by intro z; cases z)]
        refine iteF ⟨_, rfl, _, rfl, .ref a, b, W, rfl, hb.ext0 e1, fb, hW, fun res fin t2 H2 hL ht2 e2 => ⟨_, .inr (.inl ⟨_, ht2, rfl⟩), ?_⟩⟩
        show (if (!((lastL b res).map nV).isEmpty) = true then _ else _)
        have em : ((lastL b res).map nV).isEmpty = (lastL b res).isEmpty := by cases lastL b res <;> rfl
        rw [em]
        have := q res fin H2 hL (e1.trans e2)
        unfold leastM at this
        rw [if_neg z, if_neg y] at this
        by_cases x : lastL b res = []
        · rw [if_pos x] at this
          rw [x]
          exact iteF this
        · rw [if_neg x] at this
          have : (lastL b res).isEmpty = false := by cases h : lastL b res with | nil => exact absurd h x | cons _ _ => rfl
          rw [this]
          refine iteT ?_
          assumption
theorem sc_from_window : FnScope ["book", "window"] ["book"] (defScope s_from_window) := ⟨rfl, rfl, rfl, by decide +kernel, rfl, by decide +kernel, by decide +kernel⟩
def sp_from_window (K : PySem.W.Frag) : Sp := fun vs H Q _ => ∃ (v : V) (b : Book), vs = [v] ∧ BkV K H v b ∧ OkB b ∧ ∀ (o : Option Nat) (H' : Hp), FromW b o → Ext [] H H' → Q (oN o) H'
theorem ok_from_window (T : Tx K mg) : FnOk P w K mg base CX0 7 T.from_window.f T.from_window.fd ["book"] (sp_from_window K) := by
  refine T.from_window.F.ok sc_from_window (fun vs H Q E h => ?_) (fun cdv A outer s H vs Q E hr h => ?_)
  · obtain ⟨v, b, rfl, _⟩ := h; rfl
  · obtain ⟨v, b, rfl, hb, ok, q⟩ := h
    refine ⟨_, (pss_cons (ps_expr (pe_call (ok_made_book T) (hr.mono (by decide)) (by rfl) T.made_book.g T.made_book.F.kp T.made_book.b .nil pass0 (pa_cons (pv 0) pa_nil)))
      (pss_cons (ps_for PassesOwn.never rfl (pi_range2 (by rfl) T.n_range (pa_cons pe_int (pa_cons (pe_op op_add (pe_glob (v := .int 9) (by rfl) T.c_LAST_WINDOW.choose_spec ⟨_, rfl⟩) pe_int) pa_nil))) (pg_name (i := 1) sc_from_window.nd rfl (.inl rfl))
        (pss_one (ps_if (pt_cmpR op_eq (pe_call (ok_least_for T) (hr.mono (by decide)) (by rfl) T.least_for.g T.least_for.F.kp T.least_for.b .nil pass0 (pa_cons (pv 0) (pa_cons (pv 1) pa_nil))) pe_int (nomark _))
          (pss_one (ps_ret (pv 1)))
          pss_nil)))
      (pss_one (ps_ret pe_non)))), ?_⟩
    refine ⟨_, rfl, v, b, rfl, hb, ok, fun H1 e1 => ?_⟩
    refine ⟨_, _, rfl, rfl, 1, 10, rfl, ⟨by decide, by decide, by decide, by decide⟩, for_range (lo := 1) (n := 9) (fun i σ H' => (∃ y : Option V, σ = [some v, y]) ∧ (∀ V, 1 ≤ V → V ≤ i → ∀ res fin, LastM b V res fin → leastM b res ≠ 3) ∧ Ext [] H H') ⟨⟨_, rfl⟩, fun V h1 h2 => by omega, e1⟩ ?_ ?_⟩
    · rintro i σ H' hi ⟨⟨y, rfl⟩, hno, e⟩
      have ei : (1 : Int) + (i : Int) = ((i + 1 : Nat) : Int) := by omega
      rw [ei]
      refine ⟨_, rfl, _, rfl, v, b, i + 1, rfl, hb.ext0 e, ok.toFormB, by omega, fun res fin H2 hL e2 => ⟨rfl, _, rfl, ?_⟩⟩
      have hd : decide (V.int (leastM b res : Nat) = V.int 3) = decide (leastM b res = 3) := by
        rw [dec_int]
        refine decide_eq_decide.mpr ?_
        omega
      rw [hd]
      refine ite2 (fun z => ?_) (fun z => ?_)
      · have z := of_decide_eq_true z
        exact ⟨_, rfl, q (some (i + 1)) H2 ⟨by omega, by omega, ⟨res, fin, hL, z⟩, fun V h1 h2 => hno V h1 (by omega)⟩ (e.trans e2)⟩
      · have z : ¬ leastM b res = 3 := fun y => z (decide_eq_true y)
        refine ⟨⟨_, rfl⟩, fun V h1 h2 res' fin' hL' => ?_, e.trans e2⟩
        by_cases h : V ≤ i
        · exact hno V h1 h res' fin' hL'
        · have : V = i + 1 := by omega
          subst this
          rw [← (rk_fun hL hL').1]
          exact z
    · rintro σ H' ⟨⟨y, rfl⟩, hno, e⟩
      exact q none H' hno e
end
end Nv
set_option linter.all false
namespace Nv
/-! ### states on rings -/
def ringsM (b : Book) : List Nat := (List.range b.length).filter fun s => decide (0 < waysM b s)
def ringForksM (b : Book) : List Nat := (forksM b).filter fun s => decide (s ∈ ringsM b)
end Nv
set_option linter.all false
namespace Nv
/-! ### ends, level by level -/
def nextL (b : Book) (L : List Nat) : List Nat := (List.range b.length).filter fun k => L.any fun j => (mvs b j).any fun p => p.2 == k
def exL (b : Book) (s : Nat) : Nat → List Nat
  | 0 => [s]
  | n + 1 => nextL b (exL b s n)
def endsL (b : Book) (s m : Nat) : List Nat := if m = 0 then [] else wiL b s (m - 1)
theorem any_mv {b : Book} {L : List Nat} {k : Nat} : (L.any fun j => (mvs b j).any fun p => p.2 == k) = true ↔ ∃ j ∈ L, ∃ p ∈ mvs b j, p.2 = k := by
  rw [List.any_eq_true]
  constructor
  · rintro ⟨j, hj, h⟩
    obtain ⟨p, hp, e⟩ := List.any_eq_true.mp h
    exact ⟨j, hj, p, hp, by simpa using e⟩
  · rintro ⟨j, hj, p, hp, e⟩
    exact ⟨j, hj, List.any_eq_true.mpr ⟨p, hp, by simpa using e⟩⟩
theorem mem_next {b : Book} (fb : FormB b) {L : List Nat} {k : Nat} : k ∈ nextL b L ↔ ∃ j ∈ L, ∃ p ∈ mvs b j, p.2 = k := by
  unfold nextL
  rw [mem_filt, any_mv]
  constructor
  · exact fun h => h.2
  · rintro ⟨j, hj, p, hp, e⟩
    exact ⟨by rw [← e]; exact fb.to hp, j, hj, p, hp, e⟩
theorem mem_step {b : Book} (fb : FormB b) {L : List Nat} (hL : ∀ k ∈ L, k < b.length) {k : Nat} : k ∈ stepL b L ↔ k ∈ L ∨ ∃ j ∈ L, ∃ p ∈ mvs b j, p.2 = k := by
  unfold stepL nextB
  rw [mem_filt, Bool.or_eq_true, decide_eq_true_eq, any_mv]
  constructor
  · exact fun h => h.2
  · rintro (h | ⟨j, hj, p, hp, e⟩)
    · exact ⟨hL k h, .inl h⟩
    · exact ⟨by rw [← e]; exact fb.to hp, .inr ⟨j, hj, p, hp, e⟩⟩
theorem exL_srt (b : Book) (s : Nat) : ∀ n, (exL b s n).Pairwise (· < ·)
  | 0 => by simp [exL]
  | n + 1 => filt_srt _ _
theorem exL_lt {b : Book} {s : Nat} (hs : s < b.length) : ∀ n, ∀ k ∈ exL b s n, k < b.length
  | 0, k, hk => by rw [List.mem_singleton.mp hk]; exact hs
  | n + 1, k, hk => (mem_filt.mp hk).1
theorem exL_len {b : Book} {s : Nat} (hs : s < b.length) (n : Nat) : (exL b s n).length ≤ b.length := nodup_le (srt_nodup (exL_srt b s n)) (exL_lt hs n)
theorem wi_ex {b : Book} (fb : FormB b) {s : Nat} (hs : s < b.length) : ∀ (n k : Nat), k ∈ wiL b s n ↔ ∃ j, j ≤ n ∧ k ∈ exL b s j := by
  intro n
  induction n with
  | zero =>
    intro k
    constructor
    · exact fun h => ⟨0, Nat.le_refl _, h⟩
    · rintro ⟨j, hj, h⟩
      have : j = 0 := by omega
      subst this
      exact h
  | succ n ih =>
    intro k
    show k ∈ stepL b (wiL b s n) ↔ _
    rw [mem_step fb (wiL_lt hs n)]
    constructor
    · rintro (h | ⟨x, hx, p, hp, e⟩)
      · obtain ⟨j, hj, h⟩ := (ih k).mp h
        exact ⟨j, by omega, h⟩
      · obtain ⟨j, hj, h⟩ := (ih x).mp hx
        exact ⟨j + 1, by omega, (mem_next fb).mpr ⟨x, h, p, hp, e⟩⟩
    · rintro ⟨j, hj, h⟩
      by_cases hjn : j ≤ n
      · exact .inl ((ih k).mpr ⟨j, hjn, h⟩)
      · have : j = n + 1 := by omega
        subst this
        obtain ⟨x, hx, p, hp, e⟩ := (mem_next fb).mp h
        exact .inr ⟨x, (ih x).mpr ⟨n, Nat.le_refl _, hx⟩, p, hp, e⟩
theorem mem_ends {b : Book} (fb : FormB b) {s : Nat} (hs : s < b.length) {m k : Nat} : k ∈ endsL b s m ↔ ∃ j, j < m ∧ k ∈ exL b s j := by
  unfold endsL
  split
  · rename_i h
    constructor
    · intro z; cases z
    · rintro ⟨j, hj, _⟩; omega
  · rw [wi_ex fb hs]
    constructor
    · rintro ⟨j, hj, h⟩
      exact ⟨j, by omega, h⟩
    · rintro ⟨j, hj, h⟩
      exact ⟨j, by omega, h⟩
theorem endsL_srt (b : Book) (s m : Nat) : (endsL b s m).Pairwise (· < ·) := by
  unfold endsL
  split
  · exact .nil
  · exact wiL_srt _ _ _
theorem endsL_lt {b : Book} {s m : Nat} (hs : s < b.length) : ∀ k ∈ endsL b s m, k < b.length := by
  unfold endsL
  split
  · intro k hk; cases hk
  · exact wiL_lt hs _
theorem endsL_len {b : Book} {s m : Nat} (hs : s < b.length) : (endsL b s m).length ≤ b.length := nodup_le (srt_nodup (endsL_srt b s m)) (endsL_lt hs)
/-! ### steps of any number -/
inductive Rt (b : Book) : Nat → Nat → Prop
  | refl (s : Nat) : Rt b s s
  | step {s k : Nat} {p : Nat × Nat} : Rt b s k → p ∈ mvs b k → Rt b s p.2
theorem Rt.trans {b : Book} {x y z : Nat} (h : Rt b x y) (k : Rt b y z) : Rt b x z := by
  induction k with
  | refl => exact h
  | step _ hp ih => exact ih.step hp
theorem Rt.one {b : Book} {x : Nat} {p : Nat × Nat} (hp : p ∈ mvs b x) : Rt b x p.2 := (Rt.refl x).step hp
theorem wi_mono {b : Book} (fb : FormB b) {s : Nat} (hs : s < b.length) {n m : Nat} (h : n ≤ m) {k : Nat} (hk : k ∈ wiL b s n) : k ∈ wiL b s m := by
  obtain ⟨j, hj, e⟩ := (wi_ex fb hs n k).mp hk
  exact (wi_ex fb hs m k).mpr ⟨j, by omega, e⟩
theorem wi_rt {b : Book} (fb : FormB b) {s : Nat} (hs : s < b.length) : ∀ (n k : Nat), k ∈ wiL b s n → Rt b s k := by
  intro n
  induction n with
  | zero => intro k hk; rw [List.mem_singleton.mp hk]; exact .refl s
  | succ n ih =>
    intro k hk
    rcases (mem_step fb (wiL_lt hs n)).mp hk with h | ⟨x, hx, p, hp, e⟩
    · exact ih k h
    · rw [← e]
      exact (ih x hx).step hp
/-- it stays as it is, or grows -/
theorem wi_grow {b : Book} (fb : FormB b) {s : Nat} (hs : s < b.length) : ∀ n, n + 1 ≤ (wiL b s n).length ∨ ∀ m, n ≤ m → wiL b s m = wiL b s n := by
  intro n
  induction n with
  | zero => exact .inl (by simp [wiL])
  | succ n ih =>
    rcases ih with h | h
    · by_cases e : wiL b s (n + 1) = wiL b s n
      · refine .inr fun m hm => ?_
        have key : ∀ d, wiL b s (n + 1 + d) = wiL b s (n + 1) := by
          intro d
          induction d with
          | zero => rfl
          | succ d ih2 =>
            show stepL b (wiL b s (n + 1 + d)) = _
            rw [ih2, e]
            exact e
        have : m = n + 1 + (m - (n + 1)) := by omega
        rw [this]
        exact key _
      · refine .inl ?_
        have sub : ∀ k ∈ wiL b s n, k ∈ wiL b s (n + 1) := fun k hk => wi_mono fb hs (by omega) hk
        have le := List.Nodup.length_le_of_subset (srt_nodup (wiL_srt b s n)) sub
        by_cases eq : (wiL b s n).length = (wiL b s (n + 1)).length
        · exfalso
          refine e (srt_eq (wiL_srt _ _ _) (wiL_srt _ _ _) fun k => ⟨fun hk => ?_, sub k⟩)
          by_cases hin : k ∈ wiL b s n
          · exact hin
          · exfalso
            have nd : (k :: wiL b s n).Nodup := List.nodup_cons.mpr ⟨hin, srt_nodup (wiL_srt b s n)⟩
            have := List.Nodup.length_le_of_subset nd (l₂ := wiL b s (n + 1)) (fun z hz => by
              rcases List.mem_cons.mp hz with hz | hz
              · rw [hz]; exact hk
              · exact sub z hz)
            rw [List.length_cons] at this
            omega
        · omega
    · refine .inr fun m hm => ?_
      rw [h m (by omega), h (n + 1) (by omega)]
/-- within one step less than there are states all is met -/
theorem wi_full {b : Book} (fb : FormB b) {s : Nat} (hs : s < b.length) : ∀ m, b.length - 1 ≤ m → wiL b s m = wiL b s (b.length - 1) := by
  have h1 := fb.one
  rcases wi_grow fb hs (b.length - 1) with h | h
  · intro m hm
    have full : ∀ m, b.length - 1 ≤ m → ∀ k, k ∈ wiL b s m ↔ k < b.length := by
      intro m hm k
      refine ⟨fun hk => wiL_lt hs m k hk, fun hk => ?_⟩
      by_cases hin : k ∈ wiL b s m
      · exact hin
      · exfalso
        have hk2 : k ∉ wiL b s (b.length - 1) := fun z => hin (wi_mono fb hs hm z)
        have nd : (k :: wiL b s (b.length - 1)).Nodup := List.nodup_cons.mpr ⟨hk2, srt_nodup (wiL_srt b s _)⟩
        have := nodup_le (n := b.length) nd (fun z hz => by
          rcases List.mem_cons.mp hz with hz | hz
          · rw [hz]; exact hk
          · exact wiL_lt hs _ z hz)
        rw [List.length_cons] at this
        omega
    refine srt_eq (wiL_srt _ _ _) (wiL_srt _ _ _) fun k => ?_
    rw [full m hm, full _ (Nat.le_refl _)]
  · exact h
theorem rt_wi {b : Book} (fb : FormB b) {s k : Nat} (hs : s < b.length) (h : Rt b s k) : k ∈ wiL b s (b.length - 1) := by
  induction h with
  | refl => exact wi_mono fb hs (Nat.zero_le _) (by simp [wiL])
  | step h hp ih =>
    rw [← wi_full fb hs (b.length - 1 + 1) (by omega)]
    exact (mem_step fb (wiL_lt hs _)).mpr (.inr ⟨_, ih, _, hp, rfl⟩)
theorem mem_wi {b : Book} (fb : FormB b) {s k m : Nat} (hs : s < b.length) (hm : b.length - 1 ≤ m) : k ∈ wiL b s m ↔ Rt b s k := by
  rw [wi_full fb hs m hm]
  exact ⟨fun h => wi_rt fb hs _ k h, rt_wi fb hs⟩
/-- the law's knots -/
def backM (b : Book) (s : Nat) : Nat := ((mvs b s).filter fun p => decide (s ∈ endsL b p.2 8)).length
theorem back_ways {b : Book} (fb : FormB b) (s : Nat) : backM b s = waysM b s := by
  unfold backM waysM
  congr 1
  refine List.filter_congr fun p hp => decide_eq_decide.mpr ?_
  have hp2 := fb.to hp
  have h8 := fb.eight
  show s ∈ wiL b p.2 7 ↔ s ∈ wiL b p.2 (min b.length b.length)
  rw [mem_wi fb hp2 (by omega), mem_wi fb hp2 (by omega)]
theorem knots_law {b : Book} (fb : FormB b) : (List.range b.length).filter (fun s => decide (1 < backM b s)) = knotsM b := by
  unfold knotsM
  refine List.filter_congr fun s _ => ?_
  rw [back_ways fb]
end Nv
set_option Elab.async false
set_option linter.all false
set_option maxRecDepth 100000
namespace Nv
open PySem PySem.Spec PyProof.Rows L2
section
variable {P : Program} {w : World} {K : PySem.W.Frag} {mg : Str → Option Value} {base : Heap}
/-! ### the law's own ends -/
/-! ### the law's own ways back -/
/-! ### the least numbers of ways back -/
def firstM (b : Book) (s t : Nat) : List Nat := ((List.range' 1 b.length).filter fun m => decide (s ∈ endsL b t m)).take 1
def backsM (b : Book) (s : Nat) (st : State) : List Nat := st.flatMap fun p => firstM b s p.2
theorem backs_len (b : Book) (s : Nat) : ∀ st : State, (backsM b s st).length ≤ st.length
  | [] => Nat.le_refl _
  | p :: r => by
    have := backs_len b s r
    have f1 : (firstM b s p.2).length ≤ 1 := by unfold firstM; rw [List.length_take]; omega
    show ((firstM b s p.2) ++ backsM b s r).length ≤ r.length + 1
    rw [List.length_append]
    omega
theorem cut1 (xs : List V) : cutV xs none (some 1) = xs.take 1 := by
  unfold cutV
  cases xs with
  | nil => simp
  | cons x r => simp [HT.sIx]
theorem sorted_natsD {F : List Nat} {ns : List Int} (p : ns.Perm (F.map fun n : Nat => (n : Int))) (r : ns.Pairwise (· ≤ ·)) : ∃ ms : List Nat, ns.map V.int = ms.map nV ∧ ms.Perm F ∧ ms.Pairwise (· ≤ ·) := by
  have nn : ∀ z ∈ ns, ∃ n : Nat, z = (n : Int) := fun z hz => by
    obtain ⟨n, _, rfl⟩ := List.mem_map.mp (p.mem_iff.mp hz)
    exact ⟨n, rfl⟩
  refine ⟨ns.map Int.toNat, ?_, ?_, ?_⟩
  · rw [List.map_map]
    refine List.map_congr_left fun z hz => ?_
    obtain ⟨n, rfl⟩ := nn z hz
    rfl
  · have q := p.map Int.toNat
    rw [List.map_map] at q
    have e : F.map (Int.toNat ∘ fun n : Nat => (n : Int)) = F := by
      conv => rhs; rw [← List.map_id F]
      exact List.map_congr_left fun z _ => rfl
    rw [e] at q
    exact q
  · rw [List.pairwise_map]
    refine List.Pairwise.imp_of_mem (fun {a b} ha hb h => ?_) r
    obtain ⟨n, rfl⟩ := nn a ha
    obtain ⟨m, rfl⟩ := nn b hb
    simp
    omega
end
end Nv
set_option linter.all false
namespace Nv
/-! ### what lasts -/
theorem setAll_get : ∀ (L : List Nat) (r : List (Option Int)) (x : Int) (k : Nat), (setAll r L x)[k]? = if k ∈ L ∧ k < r.length then some (some x) else r[k]?
  | [], r, x, k => by simp [setAll]
  | f :: L, r, x, k => by
    show (setAll (r.set f (some x)) L x)[k]? = _
    rw [setAll_get L, List.length_set]
    by_cases h1 : k < r.length
    · by_cases h2 : k ∈ L
      · simp [h1, h2]
      · by_cases h3 : k = f
        · subst h3
          simp [h1, h2]
        · have : ¬ f = k := fun z => h3 z.symm
          simp [h1, h2, h3, this]
    · have : r[k]? = none := List.getElem?_eq_none (by omega)
      simp [h1, this]
theorem rk_sub {b : Book} {W t : Nat} {st fin : List Nat} {r res : List (Option Int)} (h : Rk b W t st r res fin) : ∀ k ∈ fin, k ∈ st := by
  induction h with
  | stop _ => exact fun k hk => hk
  | go _ _ ih => exact fun k hk => (List.mem_filter.mp (ih k hk)).1
theorem rk_stable {b : Book} {W t : Nat} {st fin : List Nat} {r res : List (Option Int)} (h : Rk b W t st r res fin) : ∀ s ∈ fin, 2 ≤ (leadM b W s fin).length := by
  induction h with
  | @stop t st r e =>
    intro s hs
    by_cases h : 2 ≤ (leadM b W s st).length
    · exact h
    · exfalso
      have : s ∈ fallM b W st := List.mem_filter.mpr ⟨hs, decide_eq_true (Nat.lt_of_not_le h)⟩
      rw [e] at this
      cases this
  | go _ _ ih => exact ih
theorem rk_stay {b : Book} {W t : Nat} {st fin : List Nat} {r res : List (Option Int)} (h : Rk b W t st r res fin) {s : Nat} (hs : s ∈ st) (two : ∀ goals : List Nat, s ∈ goals → 2 ≤ (leadM b W s goals).length) : s ∈ fin := by
  induction h with
  | stop _ => exact hs
  | @go t st fin r res _ _ ih =>
    refine ih (List.mem_filter.mpr ⟨hs, ?_⟩)
    have : s ∉ fallM b W st := fun z => by
      have := of_decide_eq_true (List.mem_filter.mp z).2
      have := two st hs
      omega
    rw [decide_eq_false this]
    rfl
theorem rk_fin {b : Book} {W t : Nat} {st fin : List Nat} {r res : List (Option Int)} (h : Rk b W t st r res fin) : (∀ k ∈ st, k < r.length) → (∀ k, k ∉ st → r[k]? ≠ some (some (-1))) → ∀ k, res[k]? = some (some (-1)) ↔ k ∈ fin := by
  induction h with
  | @stop t st r _ =>
    intro h1 h2 k
    rw [setAll_get]
    by_cases hk : k ∈ st
    · rw [if_pos ⟨hk, h1 k hk⟩]
      exact ⟨fun _ => hk, fun _ => rfl⟩
    · rw [if_neg (fun z => hk z.1)]
      exact ⟨fun z => absurd z (h2 k hk), fun z => absurd z hk⟩
  | @go t st fin r res _ _ ih =>
    intro h1 h2
    refine ih (fun k hk => by rw [setAll_len]; exact h1 k (List.mem_filter.mp hk).1) fun k hk => ?_
    rw [setAll_get]
    by_cases hf : k ∈ fallM b W st
    · have := h1 k (List.mem_filter.mp hf).1
      rw [if_pos ⟨hf, this⟩]
      intro z
      have := Option.some.inj (Option.some.inj z)
      omega
    · rw [if_neg (fun z => hf z.1)]
      refine h2 k fun z => hk (List.mem_filter.mpr ⟨z, ?_⟩)
      rw [decide_eq_false hf]
      rfl
theorem forks_lt {b : Book} {k : Nat} (h : k ∈ forksM b) : k < b.length := (mem_filt.mp h).1
theorem last_iff {b : Book} {W : Nat} {res : List (Option Int)} {fin : List Nat} (h : LastM b W res fin) (k : Nat) : k ∈ lastL b res ↔ k ∈ fin := by
  have key := rk_fin h (fun k hk => by rw [List.length_replicate]; exact forks_lt hk) (fun k _ z => by
    by_cases hk : k < b.length
    · rw [List.getElem?_replicate, if_pos hk] at z
      cases z
    · rw [List.getElem?_replicate, if_neg hk] at z
      cases z) k
  unfold lastL
  rw [mem_filt, decide_eq_true_eq, key]
  exact ⟨fun z => z.2, fun z => ⟨forks_lt (rk_sub h k z), z⟩⟩
theorem last_nil {b : Book} {W : Nat} {res : List (Option Int)} {fin : List Nat} (h : LastM b W res fin) : lastL b res = [] ↔ fin = [] := by
  constructor
  · intro e
    rw [List.eq_nil_iff_forall_not_mem]
    exact fun k hk => by have := (last_iff h k).mpr hk; rw [e] at this; cases this
  · intro e
    rw [List.eq_nil_iff_forall_not_mem]
    exact fun k hk => by have := (last_iff h k).mp hk; rw [e] at this; cases this
theorem least_two {b : Book} {res : List (Option Int)} (h : lastL b res = []) : leastM b res ≤ 2 := by
  unfold leastM
  split
  · omega
  · split
    · omega
    · simp [h]
theorem least_three {b : Book} {res : List (Option Int)} (h : leastM b res = 3) : lastL b res ≠ [] := fun e => by
  have := least_two e
  omega
/-! ### a stable set has a knot -/
theorem filt_le {α : Type} {l : List α} {f g : α → Bool} (h : ∀ x ∈ l, f x = true → g x = true) : (l.filter f).length ≤ (l.filter g).length := by
  rw [← List.countP_eq_length_filter, ← List.countP_eq_length_filter]
  exact List.countP_mono_left h
theorem led_rt {b : Book} (fb : FormB b) {t m k : Nat} (ht : t < b.length) (h : k ∈ ledL b t m) : Rt b t k := by
  unfold ledL at h
  split at h
  · cases h
  · exact wi_rt fb ht _ _ h
theorem clo_le {b : Book} (fb : FormB b) {s x : Nat} (hs : s < b.length) (hx : x < b.length) (h1 : Rt b s x) (h2 : ¬ Rt b x s) : (wiL b x (b.length - 1)).length < (wiL b s (b.length - 1)).length := by
  have nd : (s :: wiL b x (b.length - 1)).Nodup := List.nodup_cons.mpr ⟨fun z => h2 (wi_rt fb hx _ _ z), srt_nodup (wiL_srt _ _ _)⟩
  have := List.Nodup.length_le_of_subset nd (l₂ := wiL b s (b.length - 1)) fun z hz => by
    rcases List.mem_cons.mp hz with hz | hz
    · rw [hz]; exact rt_wi fb hs (.refl s)
    · exact rt_wi fb hs (h1.trans (wi_rt fb hx _ _ hz))
  rw [List.length_cons] at this
  omega
theorem bottom {b : Book} (fb : FormB b) {S : List Nat} (hS : ∀ k ∈ S, k < b.length) : ∀ (m s : Nat), s ∈ S → (wiL b s (b.length - 1)).length ≤ m → ∃ s' ∈ S, ∀ x ∈ S, Rt b s' x → Rt b x s' := by
  intro m
  induction m with
  | zero =>
    intro s hs h
    have := rt_wi fb (hS s hs) (.refl s)
    have := List.length_pos_of_mem this
    omega
  | succ m ih =>
    intro s hs h
    by_cases all : ∀ x ∈ S, Rt b s x → Rt b x s
    · exact ⟨s, hs, all⟩
    · obtain ⟨x, hx⟩ := Classical.not_forall.mp all
      obtain ⟨hxS, hx⟩ := Classical.not_imp.mp hx
      obtain ⟨h1, h2⟩ := Classical.not_imp.mp hx
      have := clo_le fb (hS s hs) (hS x hxS) h1 h2
      exact ih x hxS (by omega)
theorem mem_reach {b : Book} (fb : FormB b) {t k : Nat} (ht : t < b.length) : k ∈ reachL b t b.length ↔ Rt b t k := by
  unfold reachL
  exact mem_wi fb ht (by omega)
theorem stable_knot {b : Book} (fb : FormB b) {W : Nat} {S : List Nat} (hS : ∀ k ∈ S, k < b.length) (ne : S ≠ []) (st : ∀ s ∈ S, 2 ≤ (leadM b W s S).length) : knotsM b ≠ [] := by
  obtain ⟨s0, h0⟩ := List.exists_mem_of_ne_nil _ ne
  obtain ⟨s, hs, hb⟩ := bottom fb hS _ s0 h0 (Nat.le_refl _)
  have two := st s hs
  have : s ∈ knotsM b := by
    refine mem_filt.mpr ⟨hS s hs, decide_eq_true ?_⟩
    refine Nat.lt_of_lt_of_le two ?_
    unfold leadM waysM
    rw [List.length_map]
    refine filt_le fun p hp h => ?_
    obtain ⟨k, hk, hkS⟩ := List.any_eq_true.mp h
    have hkS := of_decide_eq_true hkS
    have hp2 := fb.to hp
    have r := led_rt fb hp2 hk
    exact decide_eq_true ((mem_reach fb hp2).mpr (r.trans (hb k hkS ((Rt.one hp).trans r))))
  exact List.ne_nil_of_mem this
theorem no_knots {b : Book} (fb : FormB b) (h : knotsM b = []) {W : Nat} {res : List (Option Int)} {fin : List Nat} (hL : LastM b W res fin) : lastL b res = [] := by
  rw [last_nil hL]
  by_cases e : fin = []
  · exact e
  · exact absurd h (stable_knot fb (fun k hk => forks_lt (rk_sub hL k hk)) e (rk_stable hL))
theorem win_one {b : Book} {res : List (Option Int)} {fin : List Nat} (hL : LastM b 1 res fin) : lastL b res = [] := by
  rw [last_nil hL, List.eq_nil_iff_forall_not_mem]
  intro k hk
  have := rk_stable hL k hk
  have e : leadM b 1 k fin = [] := by
    unfold leadM
    have : (mvs b k).filter (fun p => (ledL b p.2 (1 - 1)).any fun k => decide (k ∈ fin)) = [] := List.filter_eq_nil_iff.mpr fun p _ => by simp [ledL]
    rw [this]
    rfl
  rw [e] at this
  simp at this
/-! ### a knot lasts for the window behind its second shortest way back -/
theorem ends_mono {b : Book} (fb : FormB b) {t : Nat} (ht : t < b.length) {m n k : Nat} (h : m ≤ n) (hk : k ∈ endsL b t m) : k ∈ endsL b t n := by
  obtain ⟨j, hj, e⟩ := (mem_ends fb ht).mp hk
  exact (mem_ends fb ht).mpr ⟨j, by omega, e⟩
theorem first_mem {b : Book} {s t k : Nat} (h : k ∈ firstM b s t) : 1 ≤ k ∧ k ≤ b.length ∧ s ∈ endsL b t k := by
  unfold firstM at h
  have h := List.mem_filter.mp (List.mem_of_mem_take h)
  have h1 := List.mem_range'_1.mp h.1
  exact ⟨h1.1, by omega, of_decide_eq_true h.2⟩
theorem first_some {b : Book} (fb : FormB b) {s t : Nat} (ht : t < b.length) (h : Rt b t s) : (firstM b s t).length = 1 := by
  have h1 := fb.one
  have hm : b.length ∈ (List.range' 1 b.length).filter fun m => decide (s ∈ endsL b t m) := by
    refine List.mem_filter.mpr ⟨List.mem_range'_1.mpr ⟨h1, by omega⟩, decide_eq_true ?_⟩
    unfold endsL
    rw [if_neg (by omega)]
    exact rt_wi fb ht h
  have := List.length_pos_of_mem hm
  unfold firstM
  rw [List.length_take]
  omega
theorem backs_ge {b : Book} (fb : FormB b) (s : Nat) : ∀ st : State, (∀ p ∈ st, p.2 < b.length) → (st.filter fun p => decide (s ∈ reachL b p.2 b.length)).length ≤ (backsM b s st).length
  | [], _ => Nat.le_refl _
  | p :: r, h => by
    have ih := backs_ge fb s r fun q hq => h q (List.mem_cons_of_mem _ hq)
    have hp := h p (by simp)
    show _ ≤ ((firstM b s p.2) ++ backsM b s r).length
    rw [List.length_append, List.filter_cons]
    by_cases e : s ∈ reachL b p.2 b.length
    · have := first_some fb hp ((mem_reach fb hp).mp e)
      rw [if_pos (decide_eq_true e), List.length_cons]
      omega
    · rw [if_neg (by simpa using e)]
      omega
theorem backs_le {b : Book} (fb : FormB b) (s m : Nat) : ∀ st : State, (∀ p ∈ st, p.2 < b.length) → (backsM b s st).countP (fun k => decide (k ≤ m)) ≤ (st.filter fun p => decide (s ∈ endsL b p.2 m)).length
  | [], _ => Nat.le_refl _
  | p :: r, h => by
    have ih := backs_le fb s m r fun q hq => h q (List.mem_cons_of_mem _ hq)
    have hp := h p (by simp)
    show ((firstM b s p.2) ++ backsM b s r).countP _ ≤ _
    rw [List.countP_append, List.filter_cons]
    by_cases e : s ∈ endsL b p.2 m
    · rw [if_pos (decide_eq_true e), List.length_cons]
      have : (firstM b s p.2).countP (fun k => decide (k ≤ m)) ≤ 1 := Nat.le_trans List.countP_le_length (by unfold firstM; rw [List.length_take]; omega)
      omega
    · rw [if_neg (by simpa using e)]
      have : (firstM b s p.2).countP (fun k => decide (k ≤ m)) = 0 := by
        rw [List.countP_eq_zero]
        intro k hk z
        have z := of_decide_eq_true z
        exact e (ends_mono fb hp z (first_mem hk).2.2)
      omega
theorem backs_mem {b : Book} {s k : Nat} {st : State} (h : k ∈ backsM b s st) : 1 ≤ k ∧ k ≤ b.length := by
  obtain ⟨p, _, hp⟩ := List.mem_flatMap.mp h
  have := first_mem hp
  exact ⟨this.1, this.2.1⟩
theorem knot_win {b : Book} (fb : FormB b) {s : Nat} (hs : s ∈ knotsM b) {ms : List Nat} (hp : ms.Perm (backsM b s (mvs b s))) (hr : ms.Pairwise (· ≤ ·)) :
    ∃ m, ms[1]? = some m ∧ 1 ≤ m ∧ m ≤ b.length ∧ ∀ goals : List Nat, s ∈ goals → 2 ≤ (leadM b (m + 1) s goals).length := by
  have to : ∀ p ∈ mvs b s, p.2 < b.length := fun p hp => fb.to hp
  have hk := of_decide_eq_true (mem_filt.mp hs).2
  have hl : 2 ≤ ms.length := by
    rw [hp.length_eq]
    exact Nat.le_trans hk (backs_ge fb s _ to)
  match ms, hl, hp, hr with
  | x :: y :: r, _, hp, hr =>
    have hxy : x ≤ y := (List.pairwise_cons.mp hr).1 y (by simp)
    have hy := backs_mem (hp.mem_iff.mp (show y ∈ x :: y :: r by simp))
    refine ⟨y, rfl, hy.1, hy.2, fun goals hg => ?_⟩
    have c2 : 2 ≤ (x :: y :: r).countP (fun k => decide (k ≤ y)) := by
      rw [List.countP_cons, List.countP_cons]
      simp [hxy]
    rw [hp.countP_eq] at c2
    have := backs_le fb s y _ to
    refine Nat.le_trans (Nat.le_trans c2 this) ?_
    unfold leadM
    rw [List.length_map]
    refine filt_le fun p hp h => ?_
    have h := of_decide_eq_true h
    refine List.any_eq_true.mpr ⟨s, ?_, decide_eq_true hg⟩
    unfold endsL at h
    rw [if_neg (by omega)] at h
    unfold ledL reachL
    rw [if_neg (by omega)]
    have : min (y + 1 - 1 - 1) b.length = y - 1 := by omega
    rw [this]
    exact h
theorem knot_fork {b : Book} {s : Nat} (hs : s ∈ knotsM b) : s ∈ forksM b ∧ s < b.length := by
  have h := mem_filt.mp hs
  refine ⟨mem_filt.mpr ⟨h.1, decide_eq_true ?_⟩, h.1⟩
  have := of_decide_eq_true h.2
  unfold waysM at this
  exact Nat.lt_of_lt_of_le this (List.length_filter_le _ _)
theorem rch_zero {b : Book} (e : mvs b 0 = []) {s : Nat} (h : Rch b s) : s = 0 := by
  induction h with
  | zero => rfl
  | step _ hp ih =>
    rw [ih, e] at hp
    cases hp
theorem knot_three {b : Book} (ok : OkB b) {s m : Nat} (hs : s ∈ knotsM b) (two : ∀ goals : List Nat, s ∈ goals → 2 ≤ (leadM b (m + 1) s goals).length) {res : List (Option Int)} {fin : List Nat} (hL : LastM b (m + 1) res fin) :
    s ∈ lastL b res ∧ leastM b res = 3 := by
  obtain ⟨hf, hlt⟩ := knot_fork hs
  have h1 : s ∈ lastL b res := (last_iff hL s).mpr (rk_stay hL hf two)
  refine ⟨h1, ?_⟩
  unfold leastM
  rw [if_neg, if_neg (List.ne_nil_of_mem hf), if_neg (List.ne_nil_of_mem h1)]
  intro e
  have := rch_zero e (ok.reach s hlt)
  subst this
  have := of_decide_eq_true (mem_filt.mp hf).2
  rw [e] at this
  simp at this
/-- the first window, where there are knots -/
theorem from_knot {b : Book} (ok : OkB b) {o : Option Nat} (h : FromW b o) {s : Nat} (hs : s ∈ knotsM b) : ∃ W, o = some W ∧ 2 ≤ W ∧ W ≤ 9 := by
  have fb := ok.toFormB
  obtain ⟨ms, hp, hr⟩ : ∃ ms : List Nat, ms.Perm (backsM b s (mvs b s)) ∧ ms.Pairwise (· ≤ ·) :=
    ⟨(backsM b s (mvs b s)).mergeSort, List.mergeSort_perm _ _, by
      have := List.pairwise_mergeSort (le := fun a b : Nat => decide (a ≤ b)) (by simp; omega) (by simp; omega) (backsM b s (mvs b s))
      exact List.Pairwise.imp (fun h => of_decide_eq_true h) this⟩
  obtain ⟨m, _, m1, m2, two⟩ := knot_win fb hs hp hr
  have h8 := fb.eight
  cases o with
  | none =>
    exfalso
    obtain ⟨res, fin, hL⟩ := rk_ex b (m + 1) _ 0 (forksM b) (List.replicate b.length none) (Nat.le_refl _)
    exact h (m + 1) (by omega) (by omega) res fin hL (knot_three ok hs two hL).2
  | some W =>
    obtain ⟨w1, w9, ⟨res, fin, hL, e⟩, _⟩ := h
    refine ⟨W, rfl, ?_, w9⟩
    by_cases hW : W = 1
    · subst hW
      exact absurd (win_one hL) (least_three e)
    · omega
theorem from_le {b : Book} {W V : Nat} (h : FromW b (some W)) (hV : 1 ≤ V) {res : List (Option Int)} {fin : List Nat} (hL : LastM b V res fin) (e : leastM b res = 3) : W ≤ V := by
  by_cases hlt : W ≤ V
  · exact hlt
  · exact absurd e (h.2.2.2 V hV (by omega) res fin hL)
theorem from_none {b : Book} (fb : FormB b) (h : knotsM b = []) {o : Option Nat} (hw : FromW b o) : o = none := by
  cases o with
  | none => rfl
  | some W =>
    obtain ⟨_, _, ⟨res, fin, hL, e⟩, _⟩ := hw
    exact absurd (no_knots fb h hL) (least_three e)
end Nv
set_option linter.all false
namespace Nv
/-! ### windows that grow -/
theorem lead_goals {b : Book} {W s : Nat} {S st : List Nat} (h : ∀ k ∈ S, k ∈ st) : (leadM b W s S).length ≤ (leadM b W s st).length := by
  unfold leadM
  rw [List.length_map, List.length_map]
  refine filt_le fun p _ e => ?_
  obtain ⟨k, hk, e⟩ := List.any_eq_true.mp e
  exact List.any_eq_true.mpr ⟨k, hk, decide_eq_true (h k (of_decide_eq_true e))⟩
theorem rk_greatest {b : Book} {W t : Nat} {st fin S : List Nat} {r res : List (Option Int)} (h : Rk b W t st r res fin) (two : ∀ s ∈ S, 2 ≤ (leadM b W s S).length) : (∀ k ∈ S, k ∈ st) → ∀ k ∈ S, k ∈ fin := by
  induction h with
  | stop _ => exact fun h => h
  | @go t st fin r res _ _ ih =>
    intro h
    refine ih fun k hk => List.mem_filter.mpr ⟨h k hk, ?_⟩
    have : k ∉ fallM b W st := fun z => by
      have := of_decide_eq_true (List.mem_filter.mp z).2
      have := two k hk
      have := lead_goals (b := b) (W := W) (s := k) h
      omega
    rw [decide_eq_false this]
    rfl
theorem led_mono {b : Book} (fb : FormB b) {t m n k : Nat} (ht : t < b.length) (h : m ≤ n) (hk : k ∈ ledL b t m) : k ∈ ledL b t n := by
  unfold ledL at hk ⊢
  split at hk
  · cases hk
  · rw [if_neg (by omega)]
    exact wi_mono fb ht (by omega) hk
theorem lead_mono {b : Book} (fb : FormB b) {W V s : Nat} {S : List Nat} (h : W ≤ V) : (leadM b W s S).length ≤ (leadM b V s S).length := by
  unfold leadM
  rw [List.length_map, List.length_map]
  refine filt_le fun p hp e => ?_
  obtain ⟨k, hk, e⟩ := List.any_eq_true.mp e
  exact List.any_eq_true.mpr ⟨k, led_mono fb (fb.to hp) (by omega) hk, e⟩
theorem last_mono {b : Book} (fb : FormB b) {W V : Nat} (h : W ≤ V) {res res' : List (Option Int)} {fin fin' : List Nat} (hW : LastM b W res fin) (hV : LastM b V res' fin') : ∀ k ∈ lastL b res, k ∈ lastL b res' := by
  intro k hk
  rw [last_iff hV]
  rw [last_iff hW] at hk
  exact rk_greatest hV (fun s hs => Nat.le_trans (rk_stable hW s hs) (lead_mono fb h)) (rk_sub hW) k hk
theorem led_full {b : Book} (fb : FormB b) {t m : Nat} (ht : t < b.length) (h : b.length ≤ m) : ledL b t m = ledL b t b.length := by
  have h1 := fb.one
  unfold ledL reachL
  rw [if_neg (by omega), if_neg (by omega), wi_full fb ht _ (by omega), wi_full fb ht (min (b.length - 1) b.length) (by omega)]
theorem lead_full {b : Book} (fb : FormB b) {W : Nat} (h : b.length + 1 ≤ W) (s : Nat) (S : List Nat) : leadM b W s S = leadM b (b.length + 1) s S := by
  unfold leadM
  congr 1
  refine List.filter_congr fun p hp => ?_
  rw [led_full fb (fb.to hp) (by omega), led_full fb (m := b.length + 1 - 1) (fb.to hp) (by omega)]
theorem fall_cong {b : Book} {W V : Nat} (e : ∀ s S, leadM b W s S = leadM b V s S) (st : List Nat) : fallM b W st = fallM b V st := by
  unfold fallM
  exact List.filter_congr fun f _ => by rw [e]
theorem rest_cong {b : Book} {W V : Nat} (e : ∀ s S, leadM b W s S = leadM b V s S) (st : List Nat) : restM b W st = restM b V st := by
  unfold restM
  rw [fall_cong e]
theorem rk_cong {b : Book} {W V : Nat} (e : ∀ s S, leadM b W s S = leadM b V s S) {t : Nat} {st fin : List Nat} {r res : List (Option Int)} (h : Rk b W t st r res fin) : Rk b V t st r res fin := by
  induction h with
  | stop h => exact .stop (by rw [← fall_cong e]; exact h)
  | @go t st fin r res h _ ih =>
    refine .go (by rw [← fall_cong e]; exact h) ?_
    rw [← fall_cong e, ← rest_cong e]
    exact ih
theorem last_full {b : Book} (fb : FormB b) {W : Nat} (h : b.length + 1 ≤ W) {res : List (Option Int)} {fin : List Nat} (hL : LastM b W res fin) : LastM b (b.length + 1) res fin := rk_cong (lead_full fb h) hL
theorem last_fun {b : Book} {W : Nat} {res res' : List (Option Int)} {fin fin' : List Nat} (h : LastM b W res fin) (h' : LastM b W res' fin') : res = res' := (rk_fun h h').1
/-! ### which ranks come -/
theorem rk_none {b : Book} {W n : Nat} {F : List Nat} {t : Nat} {st fin : List Nat} {r res : List (Option Int)} (h : Rk b W t st r res fin) : r.length = n → (∀ k ∈ st, k ∈ F) → (∀ k, r[k]? = some none ↔ k < n ∧ (k ∈ st ∨ k ∉ F)) → ∀ k, res[k]? = some none ↔ k < n ∧ k ∉ F := by
  induction h with
  | @stop t st r _ =>
    intro hn hF hr k
    rw [setAll_get]
    by_cases hk : k ∈ st ∧ k < r.length
    · rw [if_pos hk]
      exact ⟨fun z => (nomatch z), fun z => absurd (hF k hk.1) z.2⟩
    · rw [if_neg hk, hr k]
      constructor
      · rintro ⟨h1, h2 | h2⟩
        · exact absurd ⟨h2, by omega⟩ hk
        · exact ⟨h1, h2⟩
      · exact fun z => ⟨z.1, .inr z.2⟩
  | @go t st fin r res _ _ ih =>
    intro hn hF hr
    refine ih (by rw [setAll_len]; exact hn) (fun k hk => hF k (List.mem_filter.mp hk).1) fun k => ?_
    rw [setAll_get]
    by_cases hk : k ∈ fallM b W st ∧ k < r.length
    · rw [if_pos hk]
      refine ⟨fun z => (nomatch z), ?_⟩
      rintro ⟨_, h2 | h2⟩
      · have := (List.mem_filter.mp h2).2
        rw [decide_eq_true hk.1] at this
        cases this
      · exact absurd (hF k (List.mem_filter.mp hk.1).1) h2
    · rw [if_neg hk, hr k]
      constructor
      · rintro ⟨h1, h2 | h2⟩
        · refine ⟨h1, .inl (List.mem_filter.mpr ⟨h2, ?_⟩)⟩
          rw [decide_eq_false (fun z => hk ⟨z, by omega⟩)]
          rfl
        · exact ⟨h1, .inr h2⟩
      · rintro ⟨h1, h2 | h2⟩
        · exact ⟨h1, .inl (List.mem_filter.mp h2).1⟩
        · exact ⟨h1, .inr h2⟩
theorem rk_vals {b : Book} {W : Nat} {t : Nat} {st fin : List Nat} {r res : List (Option Int)} (h : Rk b W t st r res fin) : (∀ k ∈ st, r[k]? = some none) → (∀ v : Nat, (∃ k : Nat, r[k]? = some (some (v : Int))) ↔ v < t) → ∃ m, ∀ v : Nat, (∃ k : Nat, res[k]? = some (some (v : Int))) ↔ v < m := by
  induction h with
  | @stop t st r _ =>
    intro hs hv
    refine ⟨t, fun v => ?_⟩
    rw [← hv v]
    constructor
    · rintro ⟨k, hk⟩
      rw [setAll_get] at hk
      split at hk
      · have := Option.some.inj (Option.some.inj hk)
        omega
      · exact ⟨k, hk⟩
    · rintro ⟨k, hk⟩
      refine ⟨k, ?_⟩
      rw [setAll_get, if_neg]
      · exact hk
      · rintro ⟨h1, _⟩
        rw [hs k h1] at hk
        cases hk
  | @go t st fin r res hne _ ih =>
    intro hs hv
    refine ih (fun k hk => ?_) fun v => ?_
    · obtain ⟨h1, h2⟩ := List.mem_filter.mp hk
      rw [setAll_get, if_neg]
      · exact hs k h1
      · rintro ⟨h3, _⟩
        rw [decide_eq_true h3] at h2
        cases h2
    · constructor
      · rintro ⟨k, hk⟩
        rw [setAll_get] at hk
        split at hk
        · have := Option.some.inj (Option.some.inj hk)
          omega
        · have := (hv v).mp ⟨k, hk⟩
          omega
      · intro h
        by_cases hvt : v = t
        · obtain ⟨k, hk⟩ := List.exists_mem_of_ne_nil _ hne
          have hk1 := hs k (List.mem_filter.mp hk).1
          refine ⟨k, ?_⟩
          rw [setAll_get, if_pos ⟨hk, (List.getElem?_eq_some_iff.mp hk1).1⟩, hvt]
        · obtain ⟨k, hk⟩ := (hv v).mpr (by omega)
          refine ⟨k, ?_⟩
          rw [setAll_get, if_neg]
          · exact hk
          · rintro ⟨h1, _⟩
            rw [hs k (List.mem_filter.mp h1).1] at hk
            cases hk
theorem rep_none {n k : Nat} : (List.replicate n (none : Option Int))[k]? = some none ↔ k < n := by
  rw [List.getElem?_replicate]
  split <;> simp [*]
theorem last_none {b : Book} {W : Nat} {res : List (Option Int)} {fin : List Nat} (h : LastM b W res fin) (k : Nat) : res[k]? = some none ↔ k < b.length ∧ k ∉ forksM b :=
  rk_none h List.length_replicate (fun k hk => hk) (fun k => by
    rw [rep_none]
    exact ⟨fun z => ⟨z, by by_cases h : k ∈ forksM b; exact .inl h; exact .inr h⟩, fun z => z.1⟩) k
theorem last_vals {b : Book} {W : Nat} {res : List (Option Int)} {fin : List Nat} (h : LastM b W res fin) : ∃ m, ∀ v : Nat, (∃ k : Nat, res[k]? = some (some (v : Int))) ↔ v < m :=
  by
    refine rk_vals h (fun k hk => rep_none.mpr (forks_lt hk)) fun v => ?_
    constructor
    · rintro ⟨k, hk⟩
      rw [List.getElem?_replicate] at hk
      split at hk <;> cases hk
    · exact fun z => absurd z (Nat.not_lt_zero v)
/-! ### three wires from the first window on -/
theorem three_iff {b : Book} {W : Nat} {res : List (Option Int)} {fin : List Nat} (h : LastM b W res fin) : leastM b res = 3 ↔ mvs b 0 ≠ [] ∧ lastL b res ≠ [] := by
  unfold leastM
  constructor
  · intro e
    split at e
    · omega
    · rename_i h1
      split at e
      · omega
      · split at e
        · omega
        · rename_i h2
          exact ⟨h1, h2⟩
  · rintro ⟨h1, h2⟩
    obtain ⟨k, hk⟩ := List.exists_mem_of_ne_nil _ h2
    have : forksM b ≠ [] := List.ne_nil_of_mem (rk_sub h k ((last_iff h k).mp hk))
    rw [if_neg h1, if_neg this, if_neg h2]
theorem three_mono {b : Book} (fb : FormB b) {W V : Nat} (h : W ≤ V) {res res' : List (Option Int)} {fin fin' : List Nat} (hW : LastM b W res fin) (hV : LastM b V res' fin') (e : leastM b res = 3) : leastM b res' = 3 := by
  obtain ⟨h1, h2⟩ := (three_iff hW).mp e
  obtain ⟨k, hk⟩ := List.exists_mem_of_ne_nil _ h2
  exact (three_iff hV).mpr ⟨h1, List.ne_nil_of_mem (last_mono fb h hW hV k hk)⟩
theorem last_ex (b : Book) (W : Nat) : ∃ res fin, LastM b W res fin := rk_ex b W _ 0 (forksM b) (List.replicate b.length none) (Nat.le_refl _)
theorem from_iff {b : Book} (fb : FormB b) {o : Option Nat} (ho : FromW b o) {W : Nat} (h1 : 1 ≤ W) {res : List (Option Int)} {fin : List Nat} (hW : LastM b W res fin) : leastM b res = 3 ↔ ∃ V, o = some V ∧ V ≤ W := by
  have h8 := fb.eight
  cases o with
  | none =>
    constructor
    · intro e
      exfalso
      by_cases h9 : W ≤ 9
      · exact ho W h1 h9 res fin hW e
      · exact ho (b.length + 1) (by omega) (by omega) res fin (last_full fb (by omega) hW) e
    · rintro ⟨V, e, _⟩
      cases e
  | some V =>
    constructor
    · exact fun e => ⟨V, rfl, from_le ho h1 hW e⟩
    · rintro ⟨V', e, hV⟩
      have e := Option.some.inj e
      subst e
      obtain ⟨_, _, ⟨res0, fin0, hL0, e0⟩, _⟩ := ho
      exact three_mono fb hV hL0 hW e0
theorem from_small {b : Book} (fb : FormB b) {V : Nat} (ho : FromW b (some V)) : V ≤ b.length + 1 := by
  by_cases h : V ≤ b.length + 1
  · exact h
  · obtain ⟨res, fin, hL⟩ := last_ex b V
    have e := (from_iff fb ho ho.1 hL).mpr ⟨V, rfl, Nat.le_refl _⟩
    exact from_le ho (by omega) (last_full fb (by omega) hL) e
/-! ### the law's own rounds -/
theorem led_ends {b : Book} (fb : FormB b) {t m k : Nat} (ht : t < b.length) : k ∈ ledL b t m ↔ k ∈ endsL b t (min m 8) := by
  have h8 := fb.eight
  unfold ledL endsL
  by_cases h : m = 0
  · subst h
    simp
  · rw [if_neg h, if_neg (by omega)]
    unfold reachL
    by_cases h9 : m ≤ b.length
    · have e1 : min (m - 1) b.length = m - 1 := by omega
      have e2 : min m 8 - 1 = m - 1 := by omega
      rw [e1, e2]
    · rw [mem_wi fb ht (by omega), mem_wi fb ht (by omega)]
def lotsM (b : Book) (W s : Nat) : List (List Nat) := (mvs b s).map fun p => endsL b p.2 (min (W - 1) 8)
theorem good_len {b : Book} (fb : FormB b) (W s : Nat) (st : List Nat) : ((lotsM b W s).filter fun l => !decide ((l.filter fun k => decide (k ∈ st)) = [])).length = (leadM b W s st).length := by
  unfold lotsM leadM
  rw [List.filter_map, List.length_map, List.length_map]
  congr 1
  refine List.filter_congr fun p hp => ?_
  have hp2 := fb.to hp
  show (!decide (((endsL b p.2 (min (W - 1) 8)).filter fun k => decide (k ∈ st)) = [])) = (ledL b p.2 (W - 1)).any fun k => decide (k ∈ st)
  by_cases h : ((endsL b p.2 (min (W - 1) 8)).filter fun k => decide (k ∈ st)) = []
  · rw [decide_eq_true h]
    symm
    rw [Bool.not_true, List.any_eq_false]
    intro k hk z
    have := List.filter_eq_nil_iff.mp h k ((led_ends fb hp2).mp hk)
    exact this z
  · rw [decide_eq_false h]
    symm
    obtain ⟨k, hk⟩ := List.exists_mem_of_ne_nil _ h
    obtain ⟨h1, h2⟩ := List.mem_filter.mp hk
    exact List.any_eq_true.mpr ⟨k, (led_ends fb hp2).mpr h1, h2⟩
end Nv
set_option Elab.async false
set_option linter.all false
namespace Nv
open PySem PySem.Spec PyProof.Rows L2
/-- repr(x), x a number or None -/
def rReprO : List V → Hp → VK → Prop := fun xs H Q => (∃ i, xs = [.int i] ∧ i.natAbs.log2 < 1920 ∧ Q (.str (toString i)) H) ∨ (xs = [.non] ∧ Q (.str "None") H)
theorem call_reprO {X : Cx} : CallR X (.builtin "repr") rReprO := by
  intro pins s σ H xs us Q I r h
  rcases h with h | ⟨rfl, q⟩
  · exact SkE.call_repr_int pins s σ H xs us Q I r h
  · obtain ⟨u, rfl, rfl⟩ := vals1 r
    exact PySem.P.repr_of_none ⟨.str _, H, I.tok _, ⟨_, rfl⟩, q⟩
end Nv
set_option Elab.async false
set_option linter.all false
set_option maxRecDepth 100000
namespace Nv
open PySem PySem.Spec PyProof.Rows L2
section
variable {P : Program} {w : World} {K : PySem.W.Frag} {mg : Str → Option Value} {base : Heap}
/-! ### ranks, and the law's own -/
theorem sc_ranks : FnScope ["book", "window"] ["book", "window"] (defScope s_ranks) := ⟨rfl, rfl, rfl, by decide +kernel, rfl, by decide +kernel, by decide +kernel⟩
def sp_ranks (K : PySem.W.Frag) : Sp := fun vs H Q _ => ∃ (v : V) (b : Book) (W : Nat), vs = [v, .int W] ∧ BkV K H v b ∧ OkB b ∧ 1 ≤ W ∧ ∀ (res : List (Option Int)) (fin : List Nat) (t : Addr) (H' : Hp), LastM b W res fin → SqT K H' t (res.map oV) → Ext [] H H' → Q (.ref t) H'
theorem ok_ranks (T : Tx K mg) : FnOk P w K mg base CX0 6 T.ranks.f T.ranks.fd ["book", "window"] (sp_ranks K) := by
  refine T.ranks.F.ok sc_ranks (fun vs H Q E h => ?_) (fun cdv A outer s H vs Q E hr h => ?_)
  · obtain ⟨v, b, W, rfl, _⟩ := h; rfl
  · obtain ⟨v, b, W, rfl, hb, ok, hW, q⟩ := h
    refine ⟨_, (pss_cons (ps_expr (pe_call (ok_made_book T) (hr.mono (by decide)) (by rfl) T.made_book.g T.made_book.F.kp T.made_book.b .nil pass0 (pa_cons (pv 0) pa_nil)))
      (pss_cons (ps_expr (pe_call (ok_check_number T) (hr.mono (by decide)) (by rfl) T.check_number.g T.check_number.F.kp T.check_number.b .nil pass0 (pa_cons (pv 1) pa_nil)))
      (pss_one (ps_ret (pe_call (ok_ranks_for T) (hr.mono (by decide)) (by rfl) T.ranks_for.g T.ranks_for.F.kp T.ranks_for.b .nil pass0 (pa_cons (pv 0) (pa_cons (pv 1) pa_nil))))))), ?_⟩
    refine ⟨_, rfl, v, b, rfl, hb, ok, fun H1 e1 => ?_⟩
    refine ⟨_, rfl, W, rfl, hW, ?_⟩
    exact ⟨_, rfl, _, rfl, v, b, W, rfl, hb.ext0 e1, ok.toFormB, hW, fun res fin t H' hL ht e => q res fin t H' hL ht (e1.trans e)⟩
/-! ### lists of lists of numbers -/
def Nm (X : List Addr) (H : Hp) (v : V) (l : List Nat) : Prop := ∃ g : Addr, v = .ref g ∧ g ∉ X ∧ H g = some (.lst (l.map nV))
def NmS (X : List Addr) (H : Hp) (v : V) (ls : List (List Nat)) : Prop := ∃ (g : Addr) (vs : List V), v = .ref g ∧ g ∉ X ∧ H g = some (.lst vs) ∧ Paired (Nm X H) vs ls
theorem Nm.ext {X Y : List Addr} {H H' : Hp} {v : V} {l : List Nat} (h : Nm X H v l) (e : Ext Y H H') (s : ∀ y ∈ Y, y ∈ X) : Nm X H' v l := by
  obtain ⟨g, rfl, h1, h2⟩ := h
  exact ⟨g, rfl, h1, e _ _ (fun z => h1 (s _ z)) h2⟩
theorem Nm.less {X Y : List Addr} {H : Hp} {v : V} {l : List Nat} (h : Nm X H v l) (s : ∀ y ∈ Y, y ∈ X) : Nm Y H v l := by
  obtain ⟨g, rfl, h1, h2⟩ := h
  exact ⟨g, rfl, fun z => h1 (s _ z), h2⟩
theorem NmS.ext {X Y : List Addr} {H H' : Hp} {v : V} {l : List (List Nat)} (h : NmS X H v l) (e : Ext Y H H') (s : ∀ y ∈ Y, y ∈ X) : NmS X H' v l := by
  obtain ⟨g, vs, rfl, h1, h2, h3⟩ := h
  exact ⟨g, vs, rfl, h1, e _ _ (fun z => h1 (s _ z)) h2, Paired.imp h3 fun _ _ z => z.ext e s⟩
theorem NmS.less {X Y : List Addr} {H : Hp} {v : V} {l : List (List Nat)} (h : NmS X H v l) (s : ∀ y ∈ Y, y ∈ X) : NmS Y H v l := by
  obtain ⟨g, vs, rfl, h1, h2, h3⟩ := h
  exact ⟨g, vs, rfl, fun z => h1 (s _ z), h2, Paired.imp h3 fun _ _ z => z.less s⟩
end
end Nv
set_option linter.all false
namespace Nv
open PySem PySem.Spec PyProof.Rows L2
/-! ### what is shown of small things -/
def oD : Option Int → PyData
  | none => .none
  | some i => .int i
theorem dp_o {K : PySem.W.Frag} {H : Hp} : ∀ l : List (Option Int), DpAll K H (l.map oV) (l.map oD)
  | [] => .nil
  | none :: r => .cons .non (dp_o r)
  | some i :: r => .cons (.int i) (dp_o r)
theorem int_short {i : Int} (h1 : -1 ≤ i) (h2 : i < 8) : PyData.leavesShort 8 (.int i) = true := by
  have : i = -1 ∨ i = 0 ∨ i = 1 ∨ i = 2 ∨ i = 3 ∨ i = 4 ∨ i = 5 ∨ i = 6 ∨ i = 7 := by omega
  rcases this with rfl | rfl | rfl | rfl | rfl | rfl | rfl | rfl | rfl <;> decide +kernel
structure ShowOk (d : PyData) : Prop where
  a : d.showable = true
  b : d.hasDict = false
  c : d.depth ≤ 60
  d : d.shown.length ≤ sizeLine
def Small (l : List (Option Int)) : Prop := ∀ i, some i ∈ l → -1 ≤ i ∧ i < 8
theorem o_short : ∀ l : List (Option Int), Small l → PyData.leavesShortAll 8 (l.map oD) = true
  | [], _ => rfl
  | none :: r, h => by
    have h2 := o_short r fun i hi => h i (List.mem_cons_of_mem _ hi)
    simp only [List.map_cons, oD, PyData.leavesShortAll, PyData.leavesShort, h2, Bool.and_true]
  | some i :: r, h => by
    have h1 := int_short (h i (by simp)).1 (h i (by simp)).2
    have h2 := o_short r fun i hi => h i (List.mem_cons_of_mem _ hi)
    simp only [List.map_cons, oD, PyData.leavesShortAll, h1, h2, Bool.and_true]
theorem o_show : ∀ l : List (Option Int), Small l → PyData.showableAll (l.map oD) = true
  | [], _ => rfl
  | none :: r, h => by
    have h2 := o_show r fun i hi => h i (List.mem_cons_of_mem _ hi)
    simp only [List.map_cons, oD, PyData.showableAll, PyData.showable, h2, Bool.and_true]
  | some i :: r, h => by
    have h1 := h i (by simp)
    have h3 : i.natAbs.log2 < 1920 := Nat.lt_of_le_of_lt (Nat.log2_le_self _) (by omega)
    have h2 := o_show r fun i hi => h i (List.mem_cons_of_mem _ hi)
    simp only [List.map_cons, oD, PyData.showableAll, PyData.showable, h2, h3, decide_true, Bool.and_true]
theorem o_nodict : ∀ l : List (Option Int), PyData.hasDictAll (l.map oD) = false
  | [] => rfl
  | none :: r => by simp only [List.map_cons, oD, PyData.hasDictAll, PyData.hasDict, o_nodict r, Bool.or_self]
  | some i :: r => by simp only [List.map_cons, oD, PyData.hasDictAll, PyData.hasDict, o_nodict r, Bool.or_self]
theorem o_depth : ∀ l : List (Option Int), PyData.depthAll (l.map oD) = 0
  | [] => rfl
  | none :: r => by simp [oD, PyData.depthAll, PyData.depth, o_depth r]
  | some i :: r => by simp [oD, PyData.depthAll, PyData.depth, o_depth r]
theorem o_bulk : ∀ l : List (Option Int), PyData.bulkAll (l.map oD) = l.length
  | [] => rfl
  | none :: r => by
    simp only [List.map_cons, oD, PyData.bulkAll, PyData.bulk, o_bulk r, List.length_cons]
    omega
  | some i :: r => by
    simp only [List.map_cons, oD, PyData.bulkAll, PyData.bulk, o_bulk r, List.length_cons]
    omega
theorem show_o {l : List (Option Int)} (h : Small l) (hl : l.length ≤ 8) : ShowOk (.tuple (l.map oD)) where
  a := by
    show PyData.showableAll _ = true
    exact o_show l h
  b := by
    show PyData.hasDictAll _ = false
    exact o_nodict l
  c := by
    show PyData.depthAll _ + 1 ≤ 60
    rw [o_depth]
    decide
  d := by
    have k := PyData.shown_le_bulk 8 (Nat.le_refl _) (.tuple (l.map oD)) (by show PyData.leavesShortAll 8 _ = true; exact o_short l h)
    have e : PyData.bulk (.tuple (l.map oD)) = l.length := by
      show PyData.bulkAll _ = _
      exact o_bulk l
    rw [e] at k
    exact Nat.le_of_lt (small1000 (by omega))
/-- numbers as such a list -/
def someN (l : List Nat) : List (Option Int) := l.map fun n : Nat => some (n : Int)
theorem some_nV (l : List Nat) : (someN l).map oV = l.map nV := by
  unfold someN
  rw [List.map_map]
  rfl
theorem small_nats {l : List Nat} (h : ∀ n ∈ l, n < 8) : Small (someN l) := fun i hi => by
  obtain ⟨n, hn, e⟩ := List.mem_map.mp hi
  have := h n hn
  have e := Option.some.inj e
  omega
theorem dp_nats {K : PySem.W.Frag} {H : Hp} (l : List Nat) : DpAll K H (l.map nV) ((someN l).map oD) := by
  rw [← some_nV]
  exact dp_o _
/-! ### the ranks' bounds -/
theorem rk_bound {b : Book} {W t : Nat} {st fin : List Nat} {r res : List (Option Int)} (h : Rk b W t st r res fin) : (∀ (k : Nat) (v : Int), r[k]? = some (some v) → -1 ≤ v ∧ v < t) → ∀ (k : Nat) (v : Int), res[k]? = some (some v) → -1 ≤ v ∧ v < t + st.length := by
  induction h with
  | @stop t st r _ =>
    intro h k v hk
    rw [setAll_get] at hk
    split at hk
    · have := Option.some.inj (Option.some.inj hk)
      omega
    · have := h k v hk
      omega
  | @go t st fin r res hne _ ih =>
    intro h k v hk
    have rl := rest_len hne
    have := ih (fun k v hk => by
      rw [setAll_get] at hk
      split at hk
      · have := Option.some.inj (Option.some.inj hk)
        omega
      · have := h k v hk
        omega) k v hk
    omega
theorem forks_len (b : Book) : (forksM b).length ≤ b.length := by
  unfold forksM
  refine Nat.le_trans (List.length_filter_le _ _) ?_
  rw [List.length_range]
  exact Nat.le_refl _
theorem last_len {b : Book} {W : Nat} {res : List (Option Int)} {fin : List Nat} (h : LastM b W res fin) : res.length = b.length := by rw [rk_len h, List.length_replicate]
theorem last_small {b : Book} (fb : FormB b) {W : Nat} {res : List (Option Int)} {fin : List Nat} (h : LastM b W res fin) : Small res := fun i hi => by
  obtain ⟨k, hk, e⟩ := List.mem_iff_getElem.mp hi
  have h8 := fb.eight
  have fl := forks_len b
  have := rk_bound h (fun k v hk => by
    rw [List.getElem?_replicate] at hk
    split at hk <;> cases hk) k i (by rw [List.getElem?_eq_getElem hk, e])
  omega
/-- the ranks from 0 on -/
def posL (res : List (Option Int)) : List Int := res.filterMap fun o => match o with
  | some v => if 0 ≤ v then some v else none
  | none => none
def posO : Option Int → List Int
  | some v => if 0 ≤ v then [v] else []
  | none => []
theorem posL_take {res : List (Option Int)} {i : Nat} {o : Option Int} (h : res[i]? = some o) : posL (res.take (i + 1)) = posL (res.take i) ++ posO o := by
  unfold posL
  rw [List.take_add_one, h, List.filterMap_append]
  congr 1
  cases o with
  | none => rfl
  | some v =>
    by_cases hv : 0 ≤ v <;> simp [hv, posO]
theorem mem_posL {res : List (Option Int)} {v : Int} : v ∈ posL res ↔ 0 ≤ v ∧ ∃ k : Nat, res[k]? = some (some v) := by
  unfold posL
  rw [List.mem_filterMap]
  constructor
  · rintro ⟨o, ho, e⟩
    cases o with
    | none => cases e
    | some u =>
      by_cases hu : 0 ≤ u
      · have e : (if 0 ≤ u then some u else none) = some v := e
        rw [if_pos hu] at e
        have e := Option.some.inj e
        subst e
        obtain ⟨k, hk, e⟩ := List.mem_iff_getElem.mp ho
        exact ⟨hu, k, by rw [List.getElem?_eq_getElem hk, e]⟩
      · have e : (if 0 ≤ u then some u else none) = some v := e
        rw [if_neg hu] at e
        cases e
  · rintro ⟨hv, k, hk⟩
    refine ⟨some v, List.mem_of_getElem? hk, ?_⟩
    show (if 0 ≤ v then some v else none) = some v
    rw [if_pos hv]
theorem posL_len (res : List (Option Int)) : (posL res).length ≤ res.length := List.length_filterMap_le _ _
/-- the list of the ranks from 0 on, rising, is an initial one -/
theorem pos_initial {b : Book} {W : Nat} {res : List (Option Int)} {fin : List Nat} (h : LastM b W res fin) {ns : List Int} (hp : ns.Pairwise (· < ·)) (hm : ∀ v, v ∈ ns ↔ v ∈ posL res) : ∃ m : Nat, ns = (List.range m).map fun n : Nat => (n : Int) := by
  obtain ⟨m, hv⟩ := last_vals h
  have nn : ∀ z ∈ ns, ∃ n : Nat, z = (n : Int) := fun z hz => by
    have := (mem_posL.mp ((hm z).mp hz)).1
    exact ⟨z.toNat, by omega⟩
  have e : ns = (ns.map Int.toNat).map fun n : Nat => (n : Int) := by
    rw [List.map_map]
    conv => lhs; rw [← List.map_id ns]
    refine List.map_congr_left fun x hx => ?_
    obtain ⟨n, rfl⟩ := nn x hx
    rfl
  refine ⟨m, ?_⟩
  rw [e]
  congr 1
  refine srt_eq ?_ List.pairwise_lt_range fun k => ?_
  · rw [List.pairwise_map]
    refine List.Pairwise.imp_of_mem (fun {a b} ha hb h => ?_) hp
    obtain ⟨n, rfl⟩ := nn a ha
    obtain ⟨m, rfl⟩ := nn b hb
    simp
    omega
  · rw [List.mem_range, ← hv k, List.mem_map]
    constructor
    · rintro ⟨z, hz, e⟩
      obtain ⟨n, rfl⟩ := nn z hz
      have e : n = k := e
      subst e
      exact (mem_posL.mp ((hm _).mp hz)).2
    · intro hk
      exact ⟨(k : Int), (hm _).mpr (mem_posL.mpr ⟨by omega, hk⟩), rfl⟩
theorem in_last {b : Book} {res : List (Option Int)} (hl : res.length = b.length) : inV (V.int (-1)) (res.map oV) = !decide (lastL b res = []) := by
  unfold inV
  rw [List.any_map]
  by_cases h : lastL b res = []
  · rw [decide_eq_true h, Bool.not_true, List.any_eq_false]
    intro o ho
    obtain ⟨k, hk, e⟩ := List.mem_iff_getElem.mp ho
    have nk : k ∉ lastL b res := by rw [h]; simp
    have : ¬ res[k]? = some (some (-1)) := fun z => nk (mem_filt.mpr ⟨by omega, decide_eq_true z⟩)
    rw [List.getElem?_eq_getElem hk, e] at this
    intro z
    cases o with
    | none => cases z
    | some v =>
      have z : decide (v = (-1 : Int)) = true := z
      have z := of_decide_eq_true z
      exact this (by rw [z])
  · rw [decide_eq_false h]
    obtain ⟨k, hk⟩ := List.exists_mem_of_ne_nil _ h
    have hk := of_decide_eq_true (mem_filt.mp hk).2
    exact List.any_eq_true.mpr ⟨_, List.mem_of_getElem? hk, rfl⟩
end Nv
set_option Elab.async false
set_option linter.all false
set_option maxRecDepth 100000
namespace Nv
open PySem PySem.Spec PyProof.Rows L2
/-! ### repr of any data -/
/-- repr(x) of data; nothing is being shown around -/
def rReprA (K : PySem.W.Frag) : List V → Hp → VK → Prop := fun xs H Q => ∃ (v : V) (d : PyData), xs = [v] ∧ Dp K H v d ∧ ShowOk d ∧ Q (.str d.shown) H
theorem call_reprA {X : Cx} (hu : X.A.units + 64 < cLine) (hg : X.A.guards = some []) : CallR X (.builtin "repr") (rReprA X.K) := by
  intro pins s σ H xs us Q I r h
  obtain ⟨v, d, rfl, hd, sh, q⟩ := h
  cases hd with
  | non =>
    obtain ⟨u, rfl, rfl⟩ := vals1 r
    exact PySem.P.repr_of_none ⟨.str _, H, I.tok _, ⟨_, rfl⟩, q⟩
  | bl b =>
    obtain ⟨u, rfl, rfl⟩ := vals1 r
    exact PySem.P.repr_of_bool ⟨.str _, H, I.tok _, ⟨_, rfl⟩, q⟩
  | int i =>
    exact SkE.call_repr_int pins s σ H _ us Q I r ⟨i, rfl, of_decide_eq_true sh.a, q⟩
  | str x =>
    obtain ⟨u, rfl, rx⟩ := vals1 r
    obtain ⟨t, rfl⟩ := rx
    exact PySem.P.repr_of_str ⟨.str _, H, I.tok _, ⟨_, rfl⟩, q⟩ sh.d
  | lst h1 h2 => exact call_reprD hu hg pins s σ H _ us Q I r ⟨_, _, rfl, .lst h1 h2, sh.a, sh.b, sh.c, sh.d, q⟩
  | tup h1 h2 => exact call_reprD hu hg pins s σ H _ us Q I r ⟨_, _, rfl, .tup h1 h2, sh.a, sh.b, sh.c, sh.d, q⟩
theorem call_reprAK (K : PySem.W.Frag) {X : Cx} (hu : X.A.units + 64 < cLine) (hg : X.A.guards = some []) (eK : X.K = K := by rfl) : CallR X (.builtin "repr") (rReprA K) := by
  subst eK
  exact call_reprA hu hg
/-- what is shown of some data -/
theorem show_mk {d : PyData} {n : Nat} (a : d.showable = true) (b : d.hasDict = false) (c : d.depth ≤ 60) (e : PyData.leavesShort 8 d = true) (k : PyData.bulk d ≤ n) (hn : n ≤ 60) : ShowOk d where
  a := a
  b := b
  c := c
  d := by
    have k2 := PyData.shown_le_bulk 8 (Nat.le_refl _) d e
    refine Nat.le_of_lt (small1000 (Nat.le_trans k2 ?_))
    omega
theorem nat_short {n : Nat} (h : n < 8) : PyData.leavesShort 8 (.int (n : Int)) = true := int_short (by omega) (by omega)
abbrev iN (l : List Nat) : List Int := l.map fun n : Nat => (n : Int)
theorem map_nV_iN (l : List Nat) : l.map nV = (iN l).map V.int := by rw [List.map_map]; rfl
theorem str_ne (x : Str) : (!decide (V.str x = V.str x)) = false := by rw [decide_eq_true rfl]; rfl
theorem str_eq (x : Str) : decide (V.str x = V.str x) = true := decide_eq_true rfl
theorem str_small {e : Int} (h : -1 ≤ e ∧ e ≤ 8) : (Str.ofString (toString e)).length ≤ 8 := by
  have : e = -1 ∨ e = 0 ∨ e = 1 ∨ e = 2 ∨ e = 3 ∨ e = 4 ∨ e = 5 ∨ e = 6 ∨ e = 7 ∨ e = 8 := by omega
  rcases this with rfl | rfl | rfl | rfl | rfl | rfl | rfl | rfl | rfl | rfl <;> decide +kernel
theorem show_int {e : Int} (h : -1 ≤ e ∧ e ≤ 8) : ShowOk (.int e) ∧ (PyData.int e).shown.length ≤ 100 := by
  have sl := str_small h
  have hlog : e.natAbs.log2 < 1920 := Nat.lt_of_le_of_lt (Nat.log2_le_self _) (by omega)
  have e1 : (PyData.int e).shown.length = (Str.ofString (toString e)).length := rfl
  exact ⟨⟨decide_eq_true hlog, rfl, (by show (0 : Nat) ≤ 60; decide), by rw [e1]; exact Nat.le_of_lt (small1000 (by omega))⟩, by omega⟩
end Nv
set_option linter.all false
namespace Nv
open PySem PySem.Spec PyProof.Rows L2
/-! ### rows, by their length -/
def lvM (b : Book) (s : Nat) : Nat → List (List Nat × Nat)
  | 0 => [([], s)]
  | n + 1 => ((lvM b s n).map fun q => (mvs b q.2).map fun p => (q.1 ++ [p.1], p.2)).flatten
def rowsM (b : Book) (s : Nat) : Nat → List (List Nat)
  | 0 => [[]]
  | n + 1 => rowsM b s n ++ (lvM b s (n + 1)).map (·.1)
def nextM (b : Book) (s m : Nat) : Option Nat := ((mvs b s).find? fun p => decide (p.1 = m)).map (·.2)
def atM (b : Book) : Nat → List Nat → Option Nat
  | s, [] => some s
  | s, m :: r => match nextM b s m with
    | some t => atM b t r
    | none => none
theorem msg_inj {b : Book} (fb : FormB b) {s : Nat} {p q : Nat × Nat} (hp : p ∈ mvs b s) (hq : q ∈ mvs b s) (e : p.1 = q.1) : p = q := by
  have hs : s < b.length := by
    by_cases hs : s < b.length
    · exact hs
    · rw [mvs_out (by omega)] at hp
      cases hp
  have h := (fb.ok hs).rise
  generalize mvs b s = l at *
  induction l with
  | nil => cases hp
  | cons x r ih =>
    rw [List.map_cons, List.pairwise_cons] at h
    rcases List.mem_cons.mp hp with rfl | hp' <;> rcases List.mem_cons.mp hq with rfl | hq'
    · rfl
    · have := h.1 q.1 (List.mem_map.mpr ⟨q, hq', rfl⟩)
      omega
    · have := h.1 p.1 (List.mem_map.mpr ⟨p, hp', rfl⟩)
      omega
    · exact ih hp' hq' h.2
theorem next_mem {b : Book} (fb : FormB b) {s : Nat} {p : Nat × Nat} (hp : p ∈ mvs b s) : nextM b s p.1 = some p.2 := by
  unfold nextM
  cases e : (mvs b s).find? fun q => decide (q.1 = p.1) with
  | none =>
    have := List.find?_eq_none.mp e p hp
    simp at this
  | some q =>
    have h1 := List.mem_of_find?_eq_some e
    have h2 := List.find?_some e
    have := msg_inj fb hp h1 (of_decide_eq_true h2).symm
    rw [this]
    rfl
theorem at_snoc {b : Book} : ∀ (r : List Nat) (s h m : Nat), atM b s r = some h → atM b s (r ++ [m]) = nextM b h m
  | [], s, h, m, e => by
    cases e
    show (match nextM b s m with | some t => atM b t [] | none => none) = _
    cases nextM b s m <;> rfl
  | x :: r, s, h, m, e => by
    show (match nextM b s x with | some t => atM b t (r ++ [m]) | none => none) = _
    have e : (match nextM b s x with | some t => atM b t r | none => none) = some h := e
    cases hn : nextM b s x with
    | none => rw [hn] at e; cases e
    | some t =>
      rw [hn] at e
      exact at_snoc r t h m e
theorem mem_lv {b : Book} {s n : Nat} {x : List Nat × Nat} : x ∈ lvM b s (n + 1) ↔ ∃ q ∈ lvM b s n, ∃ p ∈ mvs b q.2, x = (q.1 ++ [p.1], p.2) := by
  show x ∈ (((lvM b s n).map fun q => (mvs b q.2).map fun p => (q.1 ++ [p.1], p.2)).flatten) ↔ _
  rw [List.mem_flatten]
  constructor
  · rintro ⟨l, hl, hx⟩
    obtain ⟨q, hq, rfl⟩ := List.mem_map.mp hl
    obtain ⟨p, hp, rfl⟩ := List.mem_map.mp hx
    exact ⟨q, hq, p, hp, rfl⟩
  · rintro ⟨q, hq, p, hp, rfl⟩
    exact ⟨_, List.mem_map.mpr ⟨q, hq, rfl⟩, List.mem_map.mpr ⟨p, hp, rfl⟩⟩
theorem lv_lt {b : Book} (fb : FormB b) {s : Nat} (hs : s < b.length) : ∀ n, ∀ q ∈ lvM b s n, q.2 < b.length
  | 0, q, hq => by rw [List.mem_singleton.mp hq]; exact hs
  | n + 1, q, hq => by
    obtain ⟨x, _, p, hp, rfl⟩ := mem_lv.mp hq
    exact fb.to hp
theorem lv_at {b : Book} (fb : FormB b) {s : Nat} : ∀ n, ∀ q ∈ lvM b s n, atM b s q.1 = some q.2
  | 0, q, hq => by rw [List.mem_singleton.mp hq]; rfl
  | n + 1, q, hq => by
    obtain ⟨x, hx, p, hp, rfl⟩ := mem_lv.mp hq
    rw [at_snoc _ _ _ _ (lv_at fb n x hx)]
    exact next_mem fb hp
theorem lv_row {b : Book} (fb : FormB b) {s : Nat} : ∀ n, ∀ q ∈ lvM b s n, (∀ m ∈ q.1, m ≤ 99) ∧ q.1.length = n
  | 0, q, hq => by rw [List.mem_singleton.mp hq]; exact ⟨fun m hm => (nomatch hm), rfl⟩
  | n + 1, q, hq => by
    obtain ⟨x, hx, p, hp, rfl⟩ := mem_lv.mp hq
    obtain ⟨h1, h2⟩ := lv_row fb n x hx
    have hs : x.2 < b.length := by
      by_cases hs : x.2 < b.length
      · exact hs
      · rw [mvs_out (by omega)] at hp
        cases hp
    refine ⟨fun m hm => ?_, by simp [h2]⟩
    rcases List.mem_append.mp hm with hm | hm
    · exact h1 m hm
    · rw [List.mem_singleton.mp hm]
      exact (fb.ok hs).msg p hp
theorem lv_ex {b : Book} (fb : FormB b) {s : Nat} : ∀ n k, k ∈ exL b s n ↔ ∃ q ∈ lvM b s n, q.2 = k
  | 0, k => by
    show k ∈ [s] ↔ ∃ q ∈ [(([] : List Nat), s)], q.2 = k
    simp [eq_comm]
  | n + 1, k => by
    show k ∈ nextL b (exL b s n) ↔ _
    rw [mem_next fb]
    constructor
    · rintro ⟨j, hj, p, hp, e⟩
      obtain ⟨q, hq, rfl⟩ := (lv_ex fb n j).mp hj
      exact ⟨_, mem_lv.mpr ⟨q, hq, p, hp, rfl⟩, e⟩
    · rintro ⟨x, hx, e⟩
      obtain ⟨q, hq, p, hp, rfl⟩ := mem_lv.mp hx
      exact ⟨q.2, (lv_ex fb n _).mpr ⟨q, hq, rfl⟩, p, hp, e⟩
theorem lv_len {b : Book} (fb : FormB b) {s : Nat} : ∀ n, (lvM b s n).length ≤ 5 ^ n
  | 0 => by simp [lvM]
  | n + 1 => by
    have ih := lv_len (b := b) fb (s := s) n
    show (((lvM b s n).map fun q => (mvs b q.2).map fun p => (q.1 ++ [p.1], p.2)).flatten).length ≤ _
    have : ∀ l : List (List Nat × Nat), ((l.map fun q => (mvs b q.2).map fun p => (q.1 ++ [p.1], p.2)).flatten).length ≤ 5 * l.length := by
      intro l
      induction l with
      | nil => simp
      | cons x r ih =>
        rw [List.map_cons, List.flatten_cons, List.length_append, List.length_map, List.length_cons]
        have : (mvs b x.2).length ≤ 5 := by
          by_cases hs : x.2 < b.length
          · exact (fb.ok hs).few
          · rw [mvs_out (by omega)]
            simp
        omega
    have := this (lvM b s n)
    rw [Nat.pow_succ]
    omega
theorem mem_rows {b : Book} {s : Nat} : ∀ n r, r ∈ rowsM b s n ↔ ∃ j, j ≤ n ∧ ∃ q ∈ lvM b s j, q.1 = r
  | 0, r => by
    show r ∈ [[]] ↔ _
    constructor
    · intro h
      rw [List.mem_singleton.mp h]
      exact ⟨0, Nat.le_refl _, _, List.mem_singleton.mpr rfl, rfl⟩
    · rintro ⟨j, hj, q, hq, e⟩
      have : j = 0 := by omega
      subst this
      rw [List.mem_singleton.mp hq] at e
      rw [← e]
      exact List.mem_singleton.mpr rfl
  | n + 1, r => by
    show r ∈ rowsM b s n ++ (lvM b s (n + 1)).map (·.1) ↔ _
    rw [List.mem_append, mem_rows n r, List.mem_map]
    constructor
    · rintro (⟨j, hj, h⟩ | ⟨q, hq, e⟩)
      · exact ⟨j, by omega, h⟩
      · exact ⟨n + 1, Nat.le_refl _, q, hq, e⟩
    · rintro ⟨j, hj, q, hq, e⟩
      by_cases h : j ≤ n
      · exact .inl ⟨j, h, q, hq, e⟩
      · have : j = n + 1 := by omega
        subst this
        exact .inr ⟨q, hq, e⟩
theorem rows_succ {b : Book} {s : Nat} (n : Nat) : (rowsM b s (n + 1)).length = (rowsM b s n).length + (lvM b s (n + 1)).length := by
  show (rowsM b s n ++ (lvM b s (n + 1)).map (·.1)).length = _
  rw [List.length_append, List.length_map]
theorem rows_len {b : Book} (fb : FormB b) {s n : Nat} (hn : n ≤ 3) : (rowsM b s n).length ≤ 156 ∧ (lvM b s n).length ≤ 125 := by
  have l0 := lv_len fb (s := s) 0
  have l1 := lv_len fb (s := s) 1
  have l2 := lv_len fb (s := s) 2
  have l3 := lv_len fb (s := s) 3
  have r0 : (rowsM b s 0).length = 1 := rfl
  have r1 : (rowsM b s 1).length = (rowsM b s 0).length + (lvM b s 1).length := rows_succ 0
  have r2 : (rowsM b s 2).length = (rowsM b s 1).length + (lvM b s 2).length := rows_succ 1
  have r3 : (rowsM b s 3).length = (rowsM b s 2).length + (lvM b s 3).length := rows_succ 2
  have : n = 0 ∨ n = 1 ∨ n = 2 ∨ n = 3 := by omega
  rcases this with rfl | rfl | rfl | rfl <;> exact ⟨by omega, by omega⟩
/-- the states to which the rows come -/
theorem rows_ends {b : Book} (fb : FormB b) {t n : Nat} (ht : t < b.length) (hn : n < 8) {k : Nat} : (∃ r ∈ rowsM b t n, atM b t r = some k) ↔ k ∈ ledL b t (n + 1) := by
  rw [led_ends fb ht, mem_ends fb ht, Nat.min_eq_left (by omega)]
  constructor
  · rintro ⟨r, hr, e⟩
    obtain ⟨j, hj, q, hq, rfl⟩ := (mem_rows n r).mp hr
    rw [lv_at fb j q hq] at e
    exact ⟨j, by omega, (lv_ex fb j k).mpr ⟨q, hq, Option.some.inj e⟩⟩
  · rintro ⟨j, hj, h⟩
    obtain ⟨q, hq, rfl⟩ := (lv_ex fb j k).mp h
    exact ⟨q.1, (mem_rows n q.1).mpr ⟨j, by omega, q, hq, rfl⟩, lv_at fb j q hq⟩
theorem ledL_srt (b : Book) (t m : Nat) : (ledL b t m).Pairwise (· < ·) := by
  unfold ledL
  split
  · exact .nil
  · exact wiL_srt _ _ _
theorem led_eq_ends {b : Book} (fb : FormB b) {t m : Nat} (ht : t < b.length) : ledL b t m = endsL b t (min m 8) := srt_eq (ledL_srt b t m) (endsL_srt b t _) fun k => led_ends fb ht
theorem led_eq_full {b : Book} (fb : FormB b) {t m : Nat} (ht : t < b.length) (h : b.length ≤ m) : ledL b t m = endsL b t (min 8 8) := by
  rw [led_full fb ht h, ← led_full fb ht fb.eight]
  exact led_eq_ends fb ht
theorem led_len {b : Book} {t m : Nat} (ht : t < b.length) : (ledL b t m).length ≤ b.length := nodup_le (srt_nodup (ledL_srt b t m)) (ledL_lt ht)
end Nv
set_option Elab.async false
set_option linter.all false
set_option maxRecDepth 100000
namespace Nv
open PySem PySem.Spec PyProof.Rows L2
theorem op_catAK (K : PySem.W.Frag) {X : Cx} (h : X.K = K := by rfl) : OpR X (binaryOp .Add) (rCatA K) := by subst h; exact op_catA
/-! ### sorted(set), of few unlike numbers -/
theorem SetR_few {w : World} {h : Heap} {a : Addr} {S : Int → Bool} {n : Nat} (R : SetR w h a S n) {L : List Int} (hL : ∀ k, S k = true → k ∈ L) : n ≤ L.length := by
  obtain ⟨o, es, ep, t, ho, hx, hd, g, nd, hm, hb, hf, hn, _⟩ := R
  have := List.Nodup.length_le_of_subset nd (l₂ := L) fun k hk => hL k ((hm k).mpr hk)
  rw [List.length_map, Array.length_toList] at this
  omega
def rSortedSetL (w : World) : List V → Hp → VK → Prop := fun vs H Q => ∃ (a : Addr) (S : Int → Bool) (n : Nat) (L : List Int), vs = [V.ref a] ∧ H a = some (SetO w a S n) ∧ (∀ k, S k = true → k ∈ L) ∧ L.length < 64 ∧
  ∀ (ns : List Int) (p : Addr), ns.Pairwise (· < ·) → (∀ k : Int, k ∈ ns ↔ S k = true) → H p = none → Q (.ref p) (upd H p (.lst (ns.map V.int)))
theorem cr_sortedSetL {X : Cx} (hc : X.calm = true) : CallR X (.builtin "sorted") (rSortedSetL X.w) := by
  intro pins s σ H vs us Q I r h
  obtain ⟨a, S, n, L, e, ha, hS, h64, q⟩ := h
  have R := setO_get I ha
  have := SetR_few R hS
  exact cr_sortedSet hc pins s σ H vs us Q I r ⟨a, S, n, e, ha, by omega, fun ns p h1 h2 _ h4 => q ns p h1 h2 h4⟩
/-! ### rows and pairs of a row and a state -/
def RwV (K : PySem.W.Frag) (H : Hp) (v : V) (r : List Nat) : Prop := ∃ a : Addr, v = .ref a ∧ SqT K H a (r.map nV)
def PrV (K : PySem.W.Frag) (H : Hp) (v : V) (q : List Nat × Nat) : Prop := ∃ (a : Addr) (u : V), v = .ref a ∧ SqT K H a [u, .int q.2] ∧ RwV K H u q.1
theorem RwV.ext {K : PySem.W.Frag} {L : List Addr} {H H' : Hp} {v : V} {r : List Nat} (h : RwV K H v r) (e : Ext L H H') (l : Lsts L H) : RwV K H' v r := by
  obtain ⟨a, rfl, h1⟩ := h
  exact ⟨a, rfl, e.tup l h1⟩
theorem PrV.ext {K : PySem.W.Frag} {L : List Addr} {H H' : Hp} {v : V} {q : List Nat × Nat} (h : PrV K H v q) (e : Ext L H H') (l : Lsts L H) : PrV K H' v q := by
  obtain ⟨a, u, rfl, h1, h2⟩ := h
  exact ⟨a, u, rfl, e.tup l h1, h2.ext e l⟩
theorem RwV.ext0 {K : PySem.W.Frag} {H H' : Hp} {v : V} {r : List Nat} (h : RwV K H v r) (e : Ext [] H H') : RwV K H' v r := h.ext e Lsts.nil
theorem PrV.ext0 {K : PySem.W.Frag} {H H' : Hp} {v : V} {q : List Nat × Nat} (h : PrV K H v q) (e : Ext [] H H') : PrV K H' v q := h.ext e Lsts.nil
theorem RwV.put {K : PySem.W.Frag} {H : Hp} {v : V} {r : List Nat} {p : Addr} {xs ys : List V} (h : RwV K H v r) (hp : H p = some (.lst xs)) : RwV K (upd H p (.lst ys)) v r := h.ext (L := [p]) (.wr (by simp)) (one_lst hp)
theorem PrV.put {K : PySem.W.Frag} {H : Hp} {v : V} {q : List Nat × Nat} {p : Addr} {xs ys : List V} (h : PrV K H v q) (hp : H p = some (.lst xs)) : PrV K (upd H p (.lst ys)) v q := h.ext (L := [p]) (.wr (by simp)) (one_lst hp)
theorem Paired.app {α β : Type} {F : α → β → Prop} : ∀ {l₁ : List α} {m₁ : List β} {l₂ : List α} {m₂ : List β}, Paired F l₁ m₁ → Paired F l₂ m₂ → Paired F (l₁ ++ l₂) (m₁ ++ m₂)
  | _, _, _, _, .nil, h => h
  | _, _, _, _, .cons r t, h => .cons r (Paired.app t h)
theorem next_head {b : Book} (fb : FormB b) {s : Nat} {p : Nat × Nat} (hp : p ∈ mvs b s) : ∃ rest, ((mvs b s).filter fun q => decide (q.1 = p.1)).map (·.2) = p.2 :: rest := by
  have h := next_mem fb hp
  unfold nextM at h
  rw [← List.head?_filter, ← List.head?_map] at h
  cases e : ((mvs b s).filter fun q => decide (q.1 = p.1)).map (·.2) with
  | nil => rw [e] at h; cases h
  | cons x r =>
    rw [e] at h
    have h := Option.some.inj h
    rw [h]
    exact ⟨r, rfl⟩
theorem next_some {b : Book} {s m t : Nat} (h : nextM b s m = some t) : ∃ p ∈ mvs b s, p.1 = m ∧ p.2 = t := by
  unfold nextM at h
  cases e : (mvs b s).find? fun p => decide (p.1 = m) with
  | none => rw [e] at h; cases h
  | some p =>
    rw [e] at h
    exact ⟨p, List.mem_of_find?_eq_some e, of_decide_eq_true (by simpa using List.find?_some e), Option.some.inj h⟩
theorem drop_at {α : Type} {l : List α} {i : Nat} {x : α} (h : l[i]? = some x) : l.drop i = x :: l.drop (i + 1) := by
  obtain ⟨hi, e⟩ := List.getElem?_eq_some_iff.mp h
  rw [List.drop_eq_getElem_cons hi, e]
end Nv
set_option linter.all false
namespace Nv
open PySem PySem.Spec PyProof.Rows L2
/-! ### how many rows lead to a ring -/
def ringB (b : Book) (s : Nat) : Bool := decide (0 < waysM b s)
def cM (b : Book) : Nat → Nat → Nat
  | 0, _ => 0
  | r + 1, s => if ringB b s = true then 1 else ((mvs b s).map fun p => cM b r p.2).sum
theorem ring_iff {b : Book} (fb : FormB b) {s : Nat} : ringB b s = true ↔ ∃ p ∈ mvs b s, Rt b p.2 s := by
  unfold ringB waysM
  rw [decide_eq_true_eq, List.length_pos_iff]
  constructor
  · intro h
    obtain ⟨p, hp⟩ := List.exists_mem_of_ne_nil _ h
    obtain ⟨h1, h2⟩ := List.mem_filter.mp hp
    exact ⟨p, h1, (mem_wi fb (fb.to h1) (by rw [Nat.min_self]; omega)).mp (of_decide_eq_true h2)⟩
  · rintro ⟨p, hp, h⟩ e
    have : p ∈ ([] : List (Nat × Nat)) := by
      rw [← e]
      exact List.mem_filter.mpr ⟨hp, decide_eq_true ((mem_wi fb (fb.to hp) (by rw [Nat.min_self]; omega)).mpr h)⟩
    cases this
def nonR (b : Book) (s : Nat) : List Nat := (List.range b.length).filter fun u => !ringB b u && decide (u ∈ wiL b s b.length)
theorem mem_nonR {b : Book} (fb : FormB b) {s u : Nat} (hs : s < b.length) : u ∈ nonR b s ↔ u < b.length ∧ ringB b u = false ∧ Rt b s u := by
  unfold nonR
  rw [mem_filt, Bool.and_eq_true, decide_eq_true_eq, mem_wi fb hs (by omega)]
  constructor
  · rintro ⟨h1, h2, h3⟩
    exact ⟨h1, by simpa using h2, h3⟩
  · rintro ⟨h1, h2, h3⟩
    exact ⟨h1, by simpa using h2, h3⟩
theorem nonR_nd (b : Book) (s : Nat) : (nonR b s).Nodup := srt_nodup (filt_srt _ _)
theorem nonR_lt {b : Book} (fb : FormB b) {s : Nat} (hs : s < b.length) (hn : ringB b s = false) {p : Nat × Nat} (hp : p ∈ mvs b s) : (nonR b p.2).length < (nonR b s).length := by
  have hp2 := fb.to hp
  have nin : s ∉ nonR b p.2 := fun z => by
    have := (mem_nonR fb hp2).mp z
    rw [(ring_iff fb).mpr ⟨p, hp, this.2.2⟩] at hn
    cases hn
  have nd : (s :: nonR b p.2).Nodup := List.nodup_cons.mpr ⟨nin, nonR_nd _ _⟩
  have := List.Nodup.length_le_of_subset nd (l₂ := nonR b s) fun k hk => by
    rcases List.mem_cons.mp hk with rfl | hk
    · exact (mem_nonR fb hs).mpr ⟨hs, hn, .refl _⟩
    · obtain ⟨h1, h2, h3⟩ := (mem_nonR fb hp2).mp hk
      exact (mem_nonR fb hs).mpr ⟨h1, h2, (Rt.one hp).trans h3⟩
  rw [List.length_cons] at this
  omega
theorem c_stab {b : Book} (fb : FormB b) : ∀ (n s : Nat), s < b.length → (nonR b s).length ≤ n → ∀ k, n + 1 ≤ k → cM b k s = cM b (n + 1) s := by
  intro n
  induction n with
  | zero =>
    intro s hs hN k hk
    have hr : ringB b s = true := by
      cases h : ringB b s with
      | true => rfl
      | false =>
        have : s ∈ nonR b s := (mem_nonR fb hs).mpr ⟨hs, h, .refl _⟩
        have := List.length_pos_of_mem this
        omega
    obtain ⟨k, rfl⟩ : ∃ j, k = j + 1 := ⟨k - 1, by omega⟩
    show (if ringB b s = true then 1 else _) = (if ringB b s = true then 1 else _)
    rw [if_pos hr, if_pos hr]
  | succ n ih =>
    intro s hs hN k hk
    obtain ⟨k, rfl⟩ : ∃ j, k = j + 1 := ⟨k - 1, by omega⟩
    show (if ringB b s = true then 1 else _) = (if ringB b s = true then 1 else _)
    cases h : ringB b s with
    | true => rfl
    | false =>
      rw [if_neg (by simp), if_neg (by simp)]
      congr 1
      refine List.map_congr_left fun p hp => ?_
      have := nonR_lt fb hs h hp
      exact ih p.2 (fb.to hp) (by omega) k (by omega)
theorem c_zero {b : Book} (h : ∀ s, ringB b s = false) : ∀ k s, cM b k s = 0
  | 0, _ => rfl
  | k + 1, s => by
    show (if ringB b s = true then 1 else ((mvs b s).map fun p => cM b k p.2).sum) = 0
    rw [if_neg (by rw [h s]; simp)]
    have : (mvs b s).map (fun p => cM b k p.2) = (mvs b s).map fun _ => 0 := List.map_congr_left fun p _ => c_zero h k p.2
    rw [this]
    induction mvs b s with
    | nil => rfl
    | cons x r ih => simpa using ih
theorem c_len {b : Book} (fb : FormB b) {s : Nat} (hs : s < b.length) : cM b b.length s = cM b 9 s := by
  have h8 := fb.eight
  have h1 := fb.one
  by_cases h : ∃ u, ringB b u = true
  · obtain ⟨u, hu⟩ := h
    have hub : u < b.length := by
      by_cases hub : u < b.length
      · exact hub
      · unfold ringB waysM at hu
        rw [mvs_out (by omega)] at hu
        cases hu
    have nin : u ∉ nonR b s := fun z => by
      have := ((mem_nonR fb hs).mp z).2.1
      rw [hu] at this
      cases this
    have nd : (u :: nonR b s).Nodup := List.nodup_cons.mpr ⟨nin, nonR_nd _ _⟩
    have := nodup_le (n := b.length) nd fun k hk => by
      rcases List.mem_cons.mp hk with rfl | hk
      · exact hub
      · exact ((mem_nonR fb hs).mp hk).1
    rw [List.length_cons] at this
    have a := c_stab fb (b.length - 1) s hs (by omega) b.length (by omega)
    have c := c_stab fb (b.length - 1) s hs (by omega) 9 (by omega)
    rw [a, c]
  · have h : ∀ s, ringB b s = false := fun s => by
      cases e : ringB b s with
      | false => rfl
      | true => exact absurd ⟨s, e⟩ h
    rw [c_zero h, c_zero h]
/-! ### numbers of rows, by the state -/
def wS (l : List (Nat × Nat)) (f : Nat → Nat) : Nat := (l.map fun q => q.2 * f q.1).sum
def getN (l : List (Nat × Nat)) (k : Nat) : Nat := ((l.find? fun q => decide (q.1 = k)).map (·.2)).getD 0
def putN (l : List (Nat × Nat)) (k n : Nat) : List (Nat × Nat) := if (l.any fun q => decide (q.1 = k)) = true then l.map (fun q => if q.1 = k then (q.1, n) else q) else l ++ [(k, n)]
theorem wS_nil (f : Nat → Nat) : wS [] f = 0 := rfl
theorem wS_cons (q : Nat × Nat) (l : List (Nat × Nat)) (f : Nat → Nat) : wS (q :: l) f = q.2 * f q.1 + wS l f := rfl
theorem wS_app (l m : List (Nat × Nat)) (f : Nat → Nat) : wS (l ++ m) f = wS l f + wS m f := by
  unfold wS
  rw [List.map_append, List.sum_append]
theorem put_in {l : List (Nat × Nat)} {k n : Nat} (nd : (l.map (·.1)).Nodup) (hk : k ∈ l.map (·.1)) (f : Nat → Nat) : wS (l.map fun q => if q.1 = k then (q.1, getN l k + n) else q) f = wS l f + n * f k := by
  induction l with
  | nil => cases hk
  | cons q r ih =>
    rw [List.map_cons, List.nodup_cons] at nd
    rw [List.map_cons, wS_cons, wS_cons]
    by_cases e : q.1 = k
    · have g : getN (q :: r) k = q.2 := by simp [getN, List.find?_cons, e]
      have same : (r.map fun q' => if q'.1 = k then (q'.1, getN (q :: r) k + n) else q') = r := by
        conv => rhs; rw [← List.map_id r]
        refine List.map_congr_left fun x hx => ?_
        have : x.1 ≠ k := fun z => nd.1 (by rw [e, ← z]; exact List.mem_map.mpr ⟨x, hx, rfl⟩)
        rw [if_neg this]
        rfl
      rw [same, if_pos e, g]
      show (q.2 + n) * f q.1 + wS r f = q.2 * f q.1 + wS r f + n * f k
      rw [e, Nat.add_mul]
      omega
    · have g : getN (q :: r) k = getN r k := by simp [getN, List.find?_cons, e]
      have hk' : k ∈ r.map (·.1) := by
        rcases List.mem_cons.mp hk with z | z
        · exact absurd z.symm e
        · exact z
      have := ih nd.2 hk'
      rw [if_neg e, g, this]
      omega
theorem any_key {l : List (Nat × Nat)} {k : Nat} : (l.any fun q => decide (q.1 = k)) = true ↔ k ∈ l.map (·.1) := by
  rw [List.any_eq_true, List.mem_map]
  constructor
  · rintro ⟨q, hq, e⟩
    exact ⟨q, hq, of_decide_eq_true e⟩
  · rintro ⟨q, hq, e⟩
    exact ⟨q, hq, decide_eq_true e⟩
theorem get_out {l : List (Nat × Nat)} {k : Nat} (h : k ∉ l.map (·.1)) : getN l k = 0 := by
  unfold getN
  cases e : l.find? fun q => decide (q.1 = k) with
  | none => rfl
  | some q =>
    exact absurd (List.mem_map.mpr ⟨q, List.mem_of_find?_eq_some e, of_decide_eq_true (by simpa using List.find?_some e)⟩) h
theorem wS_put {l : List (Nat × Nat)} (nd : (l.map (·.1)).Nodup) (k n : Nat) (f : Nat → Nat) : wS (putN l k (getN l k + n)) f = wS l f + n * f k := by
  unfold putN
  by_cases h : (l.any fun q => decide (q.1 = k)) = true
  · rw [if_pos h]
    exact put_in nd (any_key.mp h) f
  · rw [if_neg h, get_out (fun z => h (any_key.mpr z)), wS_app, wS_cons, wS_nil, Nat.zero_add]
    rfl
theorem put_keys {l : List (Nat × Nat)} {k n : Nat} : (putN l k n).map (·.1) = if k ∈ l.map (·.1) then l.map (·.1) else l.map (·.1) ++ [k] := by
  unfold putN
  by_cases h : (l.any fun q => decide (q.1 = k)) = true
  · rw [if_pos h, if_pos (any_key.mp h), List.map_map]
    refine List.map_congr_left fun x _ => ?_
    show (if x.1 = k then (x.1, n) else x).1 = x.1
    split <;> rfl
  · rw [if_neg h, if_neg (fun z => h (any_key.mpr z)), List.map_append]
    rfl
theorem put_nd {l : List (Nat × Nat)} {k n : Nat} (nd : (l.map (·.1)).Nodup) : ((putN l k n).map (·.1)).Nodup := by
  rw [put_keys]
  split
  · exact nd
  · rename_i h
    rw [List.nodup_append]
    exact ⟨nd, by simp, fun x hx y hy e => h (by rw [← List.mem_singleton.mp hy, ← e]; exact hx)⟩
theorem put_lt {l : List (Nat × Nat)} {k n m : Nat} (h : ∀ x ∈ l.map (·.1), x < m) (hk : k < m) : ∀ x ∈ (putN l k n).map (·.1), x < m := by
  rw [put_keys]
  split
  · exact h
  · intro x hx
    rcases List.mem_append.mp hx with hx | hx
    · exact h x hx
    · rw [List.mem_singleton.mp hx]
      exact hk
theorem get_at {l : List (Nat × Nat)} (nd : (l.map (·.1)).Nodup) {i : Nat} {q : Nat × Nat} (h : l[i]? = some q) : l.find? (fun x => decide (x.1 = q.1)) = some q := by
  have hm := List.mem_of_getElem? h
  clear h
  induction l with
  | nil => cases hm
  | cons x r ih =>
    rw [List.map_cons, List.nodup_cons] at nd
    by_cases e : x.1 = q.1
    · rcases List.mem_cons.mp hm with rfl | hm
      · simp [List.find?_cons]
      · exact absurd (by rw [e]; exact List.mem_map.mpr ⟨q, hm, rfl⟩) nd.1
    · rcases List.mem_cons.mp hm with rfl | hm
      · exact absurd rfl e
      · rw [List.find?_cons]
        simp only [e, decide_false]
        exact ih nd.2 hm
/-- such numbers as a dict -/
def kvN (l : List (Nat × Nat)) : List (Key × V) := l.map fun q => (kN q.1, nV q.2)
theorem kN_inj {a b : Nat} : kN a = kN b ↔ a = b := by
  constructor
  · intro h
    have := Sum.inl.inj h
    omega
  · rintro rfl; rfl
theorem val_kvN (l : List (Nat × Nat)) (k : Nat) : valV (kvN l) (kN k) = (l.find? fun q => decide (q.1 = k)).map fun q => nV q.2 := by
  unfold valV kvN
  rw [List.find?_map]
  have : ((fun kv : Key × V => decide (kv.1 = kN k)) ∘ fun q : Nat × Nat => (kN q.1, nV q.2)) = fun q => decide (q.1 = k) := by
    funext q
    exact decide_eq_decide.mpr kN_inj
  rw [this]
  cases l.find? fun q => decide (q.1 = k) <;> rfl
theorem getD_kvN (l : List (Nat × Nat)) (k : Nat) : (valV (kvN l) (kN k)).getD (.int 0) = nV (getN l k) := by
  rw [val_kvN]
  unfold getN
  cases l.find? fun q => decide (q.1 = k) <;> rfl
theorem put_kvN (l : List (Nat × Nat)) (k n : Nat) : putK (kvN l) (kN k) (nV n) = kvN (putN l k n) := by
  unfold putK putN kvN
  rw [List.any_map]
  have e : ((fun kv : Key × V => decide (kv.1 = kN k)) ∘ fun q : Nat × Nat => (kN q.1, nV q.2)) = fun q => decide (q.1 = k) := by
    funext q
    exact decide_eq_decide.mpr kN_inj
  rw [e]
  by_cases h : (l.any fun q => decide (q.1 = k)) = true
  · rw [if_pos h, if_pos h, List.map_map, List.map_map]
    refine List.map_congr_left fun q _ => ?_
    show (if kN q.1 = kN k then (kN q.1, nV n) else (kN q.1, nV q.2)) = _
    by_cases e : q.1 = k
    · simp [e]
    · rw [if_neg (fun z => e (kN_inj.mp z))]
      simp [e]
  · rw [if_neg h, if_neg h, List.map_append]
    rfl
/-! ### the first fork -/
inductive Chain (b : Book) : Nat → Nat → Nat → Prop
  | zero {s : Nat} : Chain b s 0 s
  | step {s j f : Nat} {p : Nat × Nat} : mvs b s = [p] → Chain b p.2 j f → Chain b s (j + 1) f
theorem ex_first {b : Book} (fb : FormB b) : ∀ (j s k : Nat), k ∈ exL b s (j + 1) ↔ ∃ p ∈ mvs b s, k ∈ exL b p.2 j
  | 0, s, k => by
    show k ∈ nextL b [s] ↔ ∃ p ∈ mvs b s, k ∈ [p.2]
    rw [mem_next fb]
    constructor
    · rintro ⟨x, hx, p, hp, e⟩
      rw [List.mem_singleton.mp hx] at hp
      exact ⟨p, hp, by simp [e]⟩
    · rintro ⟨p, hp, e⟩
      exact ⟨s, by simp, p, hp, (List.mem_singleton.mp e).symm⟩
  | j + 1, s, k => by
    show k ∈ nextL b (exL b s (j + 1)) ↔ ∃ p ∈ mvs b s, k ∈ nextL b (exL b p.2 j)
    rw [mem_next fb]
    constructor
    · rintro ⟨x, hx, r, hr, e⟩
      obtain ⟨p, hp, h⟩ := (ex_first fb j s x).mp hx
      exact ⟨p, hp, (mem_next fb).mpr ⟨x, h, r, hr, e⟩⟩
    · rintro ⟨p, hp, h⟩
      obtain ⟨x, hx, r, hr, e⟩ := (mem_next fb).mp h
      exact ⟨x, (ex_first fb j s x).mpr ⟨p, hp, hx⟩, r, hr, e⟩
theorem fork_iff {b : Book} {s : Nat} : s ∈ forksM b ↔ s < b.length ∧ 1 < (mvs b s).length := by
  unfold forksM
  rw [mem_filt, decide_eq_true_eq]
theorem chain_ex {b : Book} (fb : FormB b) : ∀ (j s : Nat), s < b.length → (∃ f ∈ exL b s j, f ∈ forksM b) → ∃ i f, i ≤ j ∧ f ∈ forksM b ∧ Chain b s i f
  | 0, s, _, ⟨f, hf, h⟩ => by
    rw [List.mem_singleton.mp hf] at h
    exact ⟨0, s, Nat.le_refl _, h, .zero⟩
  | j + 1, s, hs, ⟨f, hf, h⟩ => by
    by_cases hk : s ∈ forksM b
    · exact ⟨0, s, Nat.zero_le _, hk, .zero⟩
    · have h1 : ¬ 1 < (mvs b s).length := fun z => hk (fork_iff.mpr ⟨hs, z⟩)
      obtain ⟨p, hp, hf⟩ := (ex_first fb j s f).mp hf
      have e : mvs b s = [p] := by
        match hm : mvs b s, hp, h1 with
        | [x], hp, _ => rw [List.mem_singleton.mp hp]
        | x :: y :: r, _, h1 => exact absurd (by simp) h1
      obtain ⟨i, g, hi, hg, hc⟩ := chain_ex fb j p.2 (fb.to hp) ⟨f, hf, h⟩
      exact ⟨i + 1, g, by omega, hg, .step e hc⟩
theorem rch_rt {b : Book} {s : Nat} (h : Rch b s) : Rt b 0 s := by
  induction h with
  | zero => exact .refl 0
  | step _ hp ih => exact ih.step hp
theorem chain_fork {b : Book} (ok : OkB b) (h : forksM b ≠ []) : ∃ j f, j ≤ 7 ∧ f ∈ forksM b ∧ Chain b 0 j f := by
  have fb := ok.toFormB
  have h8 := fb.eight
  obtain ⟨f, hf⟩ := List.exists_mem_of_ne_nil _ h
  have hr := rt_wi fb fb.one (rch_rt (ok.reach f (forks_lt hf)))
  obtain ⟨j, hj, he⟩ := (wi_ex fb fb.one _ _).mp hr
  obtain ⟨i, g, hi, hg, hc⟩ := chain_ex fb j 0 fb.one ⟨f, he, hf⟩
  exact ⟨i, g, by omega, hg, hc⟩
def walkF (b : Book) : Nat → Nat → Nat
  | 0, s => s
  | n + 1, s => match mvs b s with
    | [p] => walkF b n p.2
    | _ => s
def firstF (b : Book) : Nat := walkF b 8 0
theorem chain_walk {b : Book} {s j f : Nat} (h : Chain b s j f) (hf : f ∈ forksM b) : ∀ n, j ≤ n → walkF b n s = f := by
  induction h with
  | @zero s =>
    intro n _
    have h2 := (fork_iff.mp hf).2
    cases n with
    | zero => rfl
    | succ n =>
      show (match mvs b s with | [p] => walkF b n p.2 | _ => s) = s
      match hm : mvs b s, h2 with
      | [x], h2 => simp at h2
      | [], h2 => rfl
      | x :: y :: r, _ => rfl
  | @step s j f p e _ ih =>
    intro n hn
    obtain ⟨n, rfl⟩ : ∃ m, n = m + 1 := ⟨n - 1, by omega⟩
    show (match mvs b s with | [p] => walkF b n p.2 | _ => s) = f
    rw [e]
    exact ih hf n (by omega)
theorem chain_first {b : Book} (ok : OkB b) (h : forksM b ≠ []) : ∃ j, j ≤ 7 ∧ firstF b ∈ forksM b ∧ Chain b 0 j (firstF b) := by
  obtain ⟨j, f, hj, hf, hc⟩ := chain_fork ok h
  have : firstF b = f := chain_walk hc hf 8 (by omega)
  rw [this]
  exact ⟨j, hj, hf, hc⟩
/-- the least number without answers -/
def countL (b : Book) : List Nat := (mvs b (firstF b)).map fun p => cM b 9 p.2
def freeM (b : Book) : Option Nat := if ringForksM b = [] then some (if 2 < (countL b).sum ∨ 2 ∈ countL b then 3 else 2) else none
def leastN (b : Book) : Option Nat := if mvs b 0 = [] then some 0 else if forksM b = [] then some 1 else freeM b
theorem most_two {l : List Nat} (h : ¬ 2 < l.sum) {m : Nat} (hm : m ∈ l) (hmax : ∀ y ∈ l, y ≤ m) : 1 < m ↔ 2 ∈ l := by
  have le : ∀ {l : List Nat} {x : Nat}, x ∈ l → x ≤ l.sum := by
    intro l x hx
    induction l with
    | nil => cases hx
    | cons y r ih =>
      rw [List.sum_cons]
      rcases List.mem_cons.mp hx with rfl | hx
      · omega
      · have := ih hx
        omega
  constructor
  · intro h1
    have := le hm
    have : m = 2 := by omega
    rw [← this]
    exact hm
  · intro h2
    have := hmax 2 h2
    omega
/-- the messages back, the law's -/
def backL (b : Book) (s : Nat) : List Nat := ((mvs b s).filter fun p => decide (s ∈ endsL b p.2 8)).map (·.1)
theorem back_ring {b : Book} (fb : FormB b) (s : Nat) : decide (backL b s = []) = !ringB b s := by
  have h : (backL b s).length = backM b s := by unfold backL backM; rw [List.length_map]
  have h2 := back_ways fb s
  unfold ringB
  by_cases e : backL b s = []
  · rw [decide_eq_true e]
    rw [e] at h
    have : waysM b s = 0 := by rw [← h2, ← h]; rfl
    rw [this]
    rfl
  · rw [decide_eq_false e]
    have := List.length_pos_iff.mpr e
    rw [decide_eq_true (by omega)]
    rfl
theorem mem_rings {b : Book} {s : Nat} (hs : s < b.length) : decide (s ∈ ringsM b) = ringB b s := by
  unfold ringB ringsM
  refine decide_eq_decide.mpr ?_
  rw [mem_filt, decide_eq_true_eq]
  exact ⟨fun h => h.2, fun h => ⟨hs, h⟩⟩
theorem rings_law {b : Book} (fb : FormB b) : (List.range b.length).filter (fun s => ringB b s && decide (1 < (mvs b s).length)) = ringForksM b := by
  unfold ringForksM forksM
  rw [List.filter_filter]
  refine List.filter_congr fun s hs => ?_
  rw [mem_rings (List.mem_range.mp hs)]
/-- a turn of the law's count -/
theorem c_turn (b : Book) (r s : Nat) : cM b (r + 1) s = if ringB b s = true then 1 else ((mvs b s).map fun p => cM b r p.2).sum := rfl
end Nv
set_option Elab.async false
set_option linter.all false
set_option maxRecDepth 100000
namespace Nv
open PySem PySem.Spec PyProof.Rows L2
section
variable {P : Program} {w : World} {K : PySem.W.Frag} {mg : Str → Option Value} {base : Heap}
/-! ### forks on rings -/
theorem sc_ring_states : FnScope ["book", "state"] ["book"] (defScope s_ring_states) := ⟨rfl, rfl, rfl, by decide +kernel, rfl, by decide +kernel, by decide +kernel⟩
def sp_ring_states (K : PySem.W.Frag) : Sp := fun vs H Q _ => ∃ (v : V) (b : Book), vs = [v] ∧ BkV K H v b ∧ FormB b ∧ ∀ (t : Addr) (H' : Hp), H' t = some (.lst ((ringsM b).map nV)) → Ext [] H H' → Q (.ref t) H'
theorem ok_ring_states (T : Tx K mg) : FnOk P w K mg base CX0 3 T.ring_states.f T.ring_states.fd ["book"] (sp_ring_states K) := by
  refine T.ring_states.F.ok sc_ring_states (fun vs H Q E h => ?_) (fun cdv A outer s H vs Q E hr h => ?_)
  · obtain ⟨v, b, rfl, _⟩ := h; rfl
  · obtain ⟨v, b, rfl, hb, fb, q⟩ := h
    obtain ⟨a, ls, rfl, ha, hls⟩ := id hb
    have llen := Paired.len hls
    have h8 := fb.eight
    refine ⟨_, (pss_one (ps_ret (pe_lc (own := [("state", 1)]) rfl sc_ring_states.nd (pi_range1 (by rfl) T.n_range (pa_cons (pe_callB call_len_seq (by rfl) T.n_len PySem.boot_len (pa_cons (pv 0) pa_nil)) pa_nil)) (blkOk_by (own := [("state", 1)]) (N := ["book", "state"]) (sc := defScope s_ring_states) (by decide +kernel)) (fun _ _ _ _ _ => (pg_name (i := 1) sc_ring_states.nd rfl (.inl rfl))) (fun _ _ _ _ _ => pts_one (pt_mid (pt_cmpR op_gt (pe_call (ok_ways_back T) (hr.mono (by decide)) (by rfl) T.ways_back.g T.ways_back.F.kp T.ways_back.b .nil pass0 (pa_cons (pv 0) (pa_cons (pv 1) pa_nil))) pe_int (nomark _)))) (fun _ _ _ _ _ => (pv 1))))), ?_⟩
    refine ⟨_, rfl, a, _, rfl, .inr ha, _, rfl, by omega, by omega, fun D hD => ?_⟩
    rw [forTo llen]
    refine filt_range (fun s => decide (0 < waysM b s)) hD (by omega) (fun v => rfl) (fun v => rfl) (fun k H' hk e => ?_) (fun H' h e => q D H' h e)
    refine ⟨_, rfl, _, rfl, .ref a, b, k, rfl, hb.ext0 e, fb, hk, fun H3 e3 => ⟨_, _, rfl, rfl, _, rfl, ?_, e3⟩⟩
    refine decide_eq_decide.mpr ?_
    omega
theorem sc_forks_on_rings : FnScope ["book", "ring", "state"] ["book"] (defScope s_forks_on_rings) := ⟨rfl, rfl, rfl, by decide +kernel, rfl, by decide +kernel, by decide +kernel⟩
def sp_forks_on_rings (K : PySem.W.Frag) : Sp := fun vs H Q _ => ∃ (v : V) (b : Book), vs = [v] ∧ BkV K H v b ∧ FormB b ∧ ∀ (t : Addr) (H' : Hp), SqT K H' t ((ringForksM b).map nV) → Ext [] H H' → Q (.ref t) H'
theorem ok_forks_on_rings (T : Tx K mg) : FnOk P w K mg base CX0 4 T.forks_on_rings.f T.forks_on_rings.fd ["book"] (sp_forks_on_rings K) := by
  refine T.forks_on_rings.F.ok sc_forks_on_rings (fun vs H Q E h => ?_) (fun cdv A outer s H vs Q E hr h => ?_)
  · obtain ⟨v, b, rfl, _⟩ := h; rfl
  · obtain ⟨v, b, rfl, hb, fb, q⟩ := h
    have h8 := fb.eight
    refine ⟨_, (pss_cons (ps_set (i := 1) sc_forks_on_rings.nd rfl (.inr rfl) (pe_call (ok_ring_states T) (hr.mono (by decide)) (by rfl) T.ring_states.g T.ring_states.F.kp T.ring_states.b .nil pass0 (pa_cons (pv 0) pa_nil)))
      (pss_one (ps_ret (pe_callTy call_tupZ (by rfl) T.n_tuple (by decide +kernel) (pa_cons (pe_lc (own := [("state", 2)]) rfl sc_forks_on_rings.nd (pi_tup (pe_call (ok_fork_states T) (hr.mono (by decide)) (by rfl) T.fork_states.g T.fork_states.F.kp T.fork_states.b .nil pass0 (pa_cons (pv 0) pa_nil))) (blkOk_by (own := [("state", 2)]) (N := ["book", "ring", "state"]) (sc := defScope s_forks_on_rings) (by decide +kernel)) (fun _ _ _ _ _ => (pg_name (i := 2) sc_forks_on_rings.nd rfl (.inl rfl))) (fun _ _ _ _ _ => pts_one (pt_mid (pt_cmpR (op_in_seqK K) (pv 2) (pv 1) (by rfl)))) (fun _ _ _ _ _ => (pv 2))) pa_nil))))), ?_⟩
    refine ⟨_, rfl, v, b, rfl, hb, fb, fun r H1 hR e1 => ?_⟩
    refine ⟨_, rfl, v, b, rfl, hb.ext0 e1, h8, fun t H2 ht e2 => ?_⟩
    refine ⟨t, rfl, ⟨_, ht⟩, fun D hD => ?_⟩
    have fl : (forksM b).length ≤ b.length := by
      unfold forksM
      refine Nat.le_trans (List.length_filter_le _ _) ?_
      rw [List.length_range]
      exact Nat.le_refl _
    refine filt_tup (K := K) (a := t) (l := forksM b) (fun k => decide (k ∈ ringsM b)) hD ht (by omega) (fun v => rfl) (fun v => rfl) (fun k H' hk e => ?_) (fun H' h e => ?_)
    · exact ⟨_, rfl, _, rfl, r, _, rfl, .inl (.of (e.at (e2.at hR (by simp)) (by simp))), rfl, flat_nV _, _, rfl, inV_nV _ _, .refl⟩
    · refine ⟨D, _, rfl, .of h, fun t2 H3 ht2 hH => ?_⟩
      obtain ⟨o, _, rfl⟩ := hH
      exact q t2 _ (.inl (.inr ⟨o, upd_same⟩)) (((e1.trans e2).trans e).put2 ht2)
end
end Nv
set_option Elab.async false
set_option linter.all false
set_option maxRecDepth 100000
namespace Nv
open PySem PySem.Spec PyProof.Rows L2
section
variable {P : Program} {w : World} {K : PySem.W.Frag} {mg : Str → Option Value} {base : Heap}
/-! ### the least number without answers -/
theorem sum_nats (l : List Nat) : (l.map fun n : Nat => (n : Int)).sum = ((l.sum : Nat) : Int) := by
  induction l with
  | nil => rfl
  | cons x r ih => rw [List.map_cons, List.sum_cons, List.sum_cons, ih, Int.natCast_add]
theorem cnt_at {f : Nat → Nat} {n k : Nat} (h : k < n) : (((List.range n).map f).map nV)[k]? = some (nV (f k)) := by
  rw [List.getElem?_map, List.getElem?_map, List.getElem?_range h]
  rfl
theorem fork_two {b : Book} {s : Nat} (h : s ∈ forksM b) : 1 < (mvs b s).length := (fork_iff.mp h).2
theorem chain_end {b : Book} {s j f : Nat} (h : Chain b s j f) (h2 : 1 < (mvs b s).length) : s = f ∧ j = 0 := by
  cases h with
  | zero => exact ⟨rfl, rfl⟩
  | step e _ => rw [e] at h2; simp at h2
theorem chain_go {b : Book} {s j f : Nat} (h : Chain b s j f) (hf : f ∈ forksM b) (h2 : ¬ 1 < (mvs b s).length) : ∃ p i, mvs b s = [p] ∧ j = i + 1 ∧ Chain b p.2 i f := by
  cases h with
  | zero => exact absurd (fork_two hf) h2
  | @step s j f p e hc => exact ⟨p, j, e, rfl, hc⟩
def sp_law_win_free (K : PySem.W.Frag) : Sp := fun vs H Q _ => ∃ (v : V) (b : Book), vs = [v] ∧ BkV K H v b ∧ OkB b ∧ forksM b ≠ [] ∧ ∀ (H' : Hp), Ext [] H H' → Q (oN (freeM b)) H'
theorem sc_ray_counts : FnScope ["book", "ring", "counts", "_", "state", "message", "to"] ["book"] (defScope s_ray_counts) := ⟨rfl, rfl, rfl, by decide +kernel, rfl, by decide +kernel, by decide +kernel⟩
def sp_ray_counts (K : PySem.W.Frag) : Sp := fun vs H Q _ => ∃ (v : V) (b : Book), vs = [v] ∧ BkV K H v b ∧ FormB b ∧ ∀ (t : Addr) (H' : Hp), H' t = some (.lst (((List.range b.length).map (cM b b.length)).map nV)) → Ext [] H H' → Q (.ref t) H'
theorem rep_zero (b : Book) : ∀ n, (List.replicate n [V.int 0]).flatten = ((List.range n).map (cM b 0)).map nV
  | 0 => rfl
  | n + 1 => by
    have h : ∀ m, (List.replicate m [V.int 0]).flatten = List.replicate m (V.int 0) := by
      intro m
      induction m with
      | zero => rfl
      | succ m ih => rw [List.replicate_succ, List.flatten_cons, ih, List.replicate_succ]; rfl
    rw [h]
    refine (List.eq_replicate_iff.mpr ⟨by simp, fun x hx => ?_⟩).symm
    obtain ⟨y, hy, rfl⟩ := List.mem_map.mp hx
    obtain ⟨z, _, rfl⟩ := List.mem_map.mp hy
    rfl
theorem ok_ray_counts (T : Tx K mg) : FnOk P w K mg base CX0 4 T.ray_counts.f T.ray_counts.fd ["book"] (sp_ray_counts K) := by
  refine T.ray_counts.F.ok sc_ray_counts (fun vs H Q E h => ?_) (fun cdv A outer s H vs Q E hr h => ?_)
  · obtain ⟨v, b, rfl, _⟩ := h; rfl
  · obtain ⟨v, b, rfl, hb, fb, q⟩ := h
    have h8 := fb.eight
    obtain ⟨a, ls, rfl, ha, hls⟩ := id hb
    have llen := Paired.len hls
    refine ⟨_, (pss_cons (ps_set (i := 1) sc_ray_counts.nd rfl (.inr rfl) (pe_call (ok_ring_states T) (hr.mono (by decide)) (by rfl) T.ring_states.g T.ring_states.F.kp T.ring_states.b .nil pass0 (pa_cons (pv 0) pa_nil)))
      (pss_cons (ps_set (i := 2) sc_ray_counts.nd rfl (.inr rfl) (pe_op op_rep (pe_lst (pa_cons pe_int pa_nil)) (pe_callB call_len_seq (by rfl) T.n_len PySem.boot_len (pa_cons (pv 0) pa_nil))))
      (pss_cons (ps_for PassesOwn.never rfl (pi_range1 (by rfl) T.n_range (pa_cons (pe_callB call_len_seq (by rfl) T.n_len PySem.boot_len (pa_cons (pv 0) pa_nil)) pa_nil)) (pg_name (i := 3) sc_ray_counts.nd rfl (.inl rfl))
        (pss_one (ps_set (i := 2) sc_ray_counts.nd rfl (.inr rfl) (pe_lc (own := [("state", 4)]) rfl sc_ray_counts.nd (pi_range1 (by rfl) T.n_range (pa_cons (pe_callB call_len_seq (by rfl) T.n_len PySem.boot_len (pa_cons (pv 0) pa_nil)) pa_nil)) (blkOk_by (own := [("state", 4)]) (N := ["book", "ring", "counts", "_", "state", "message", "to"]) (sc := defScope s_ray_counts) (by decide +kernel)) (fun _ _ _ _ _ => (pg_name (i := 4) sc_ray_counts.nd rfl (.inl rfl))) (fun _ _ _ _ _ => pts_nil) (fun _ _ _ _ _ => (pe_mid (pe_ifExp (pt_cmpR (op_in_seqK K) (pv 4) (pv 1) (by rfl)) pe_int (pe_callB (cr_sumK K) (by rfl) T.n_sum (by decide +kernel) (pa_cons (pe_lc (own := [("message", 5), ("to", 6)]) rfl sc_ray_counts.nd (pi_tupK K (pe_ix (ix_tupK K) (pv 0) (pv 4) (fun _ _ => rfl))) (blkOk_by (own := [("message", 5), ("to", 6)]) (by kernel_rfl)) (fun _ _ _ _ _ => (pg_tupK (n := 2) K rfl (pgs_cons (pg_name (i := 5) sc_ray_counts.nd rfl (.inl rfl)) (pgs_cons (pg_name (i := 6) sc_ray_counts.nd rfl (.inl rfl)) pgs_nil)))) (fun _ _ _ _ _ => pts_nil) (fun _ _ _ _ _ => (pe_ix (ix_listK K) (pv 2) (pv 6) (fun _ _ => rfl)))) pa_nil)))))))))
      (pss_one (ps_ret (pv 2)))))), ?_⟩
    refine ⟨_, rfl, .ref a, b, rfl, hb, fb, fun rg H1 hrg e1 => ?_⟩
    refine ⟨(by show 1 ≤ sizeLine; decide), fun x hx => ?_⟩
    have x0 : Ext [] H1 (upd H1 x (.lst [.int 0])) := .new hx
    refine ⟨_, rfl, a, _, rfl, .inr ((e1.trans x0).tup Lsts.nil ha), x, _, _, rfl, rfl, upd_same, by omega, by omega, ?_, fun ro hro => ?_⟩
    · rw [forTo llen]
      exact Nat.le_of_lt (small1000 (by show 1 * b.length ≤ 1000; omega))
    rw [forTo llen, rep_zero b]
    have x1 := x0.put2 (o := .lst (((List.range b.length).map (cM b 0)).map nV)) hro
    refine ⟨_, rfl, a, _, rfl, .inr ((e1.trans x1).tup Lsts.nil ha), _, rfl, by omega, by omega, ?_⟩
    rw [forTo llen]
    refine for_range (lo := 0) (n := b.length) (fun r σ H' => ∃ (ct : Addr) (y : Option V), σ = [some (.ref a), some (.ref rg), some (.ref ct), y, none, none, none] ∧ H' ct = some (.lst (((List.range b.length).map (cM b r)).map nV)) ∧ Ext [] H1 H') ⟨ro, _, rfl, upd_same, x1⟩ ?_ ?_
    · rintro r σ H2 hrr ⟨ct, y, rfl, hct, e2⟩
      have f2 := e1.trans e2
      refine ⟨_, rfl, a, _, rfl, .inr (f2.tup Lsts.nil ha), _, rfl, by omega, by omega, fun D hD => ?_⟩
      rw [forTo llen]
      refine lc_range (lo := 0) (n := b.length) (fun i H' => H' D = some (.lst (((List.range i).map (cM b (r + 1))).map nV)) ∧ Ext [] H2 H') ⟨upd_same, .new hD⟩ ?_ ?_
      · rintro m H3 hm ⟨hX, e3⟩
        simp only [Int.zero_add]
        refine ⟨rfl, yes ?_⟩
        have f3 := f2.trans e3
        refine ⟨fun v H' => v = nV (cM b (r + 1) m) ∧ Ext [] H3 H', ?_, ?_⟩
        · refine ⟨_, rfl, _, rfl, rg, _, rfl, .inl (.of ((e2.trans e3).at hrg (by simp))), rfl, flat_nV _, _, rfl, ?_⟩
          show (if inV (nV m) ((ringsM b).map nV) = true then _ else _)
          rw [inV_nV, mem_rings hm, c_turn]
          cases hrb : ringB b m with
          | true => exact iteT ⟨rfl, .refl⟩
          | false =>
            refine iteF ?_
            obtain ⟨u, hu, c, ps, rfl, hcz, hps⟩ := Paired.get hls (mvs_lt hm)
            have plen := Paired.len hps
            have five := (fb.ok hm).few
            refine ⟨_, rfl, _, rfl, a, _, _, _, rfl, rfl, f3.tup Lsts.nil ha, atI_nat hu, c, rfl, ⟨_, (f3.tz Lsts.nil hcz).sq⟩, fun D2 hD2 => ?_⟩
            refine lc_tup (K := K) (a := c) (xs := ps.map V.ref) (fun i H4 => H4 D2 = some (.lst ((((mvs b m).take i).map fun p => cM b r p.2).map nV)) ∧ Ext [] H3 H4) ⟨by simp; exact upd_same, .new hD2⟩ (fun i H4 _ ⟨_, e⟩ => ((f3.trans e).tz Lsts.nil hcz).sq) ?_ ?_
            · rintro i v H4 hv ⟨hX2, e4⟩
              obtain ⟨g, hg, rfl⟩ := map_at hv
              obtain ⟨p, hpp, hcp⟩ := Paired.get' hps hg
              have hp2 := fb.to (List.mem_of_getElem? hpp)
              refine ⟨g, _, rfl, hcp.ext0 (f3.trans e4), rfl, _, _, rfl, _, _, rfl, rfl, rfl, yes ?_⟩
              refine ⟨_, rfl, _, rfl, ct, _, _, _, rfl, rfl, .of ((e3.trans e4).at hct (by simp)), atI_nat (cnt_at hp2), ?_⟩
              refine ⟨_, hX2, ?_, ?_, e4.put hD2⟩
              · rw [List.length_map, List.length_map, List.length_take]
                exact small1000 (by omega)
              · rw [upd_same, List.take_add_one, hpp, List.map_append, List.map_append]
                rfl
            · rintro H4 ⟨hX2, e4⟩
              rw [List.length_map, plen, List.take_length, map_nV_int] at hX2
              refine ⟨D2, _, rfl, .of hX2, ?_, e4⟩
              rw [sum_nats, if_neg (by simp)]
        · rintro v H4 ⟨rfl, e4⟩
          refine ⟨_, e4.at hX (by simp), ?_, ?_, (e3.trans e4).put hD⟩
          · rw [List.length_map, List.length_map, List.length_range]
            exact small1000 (by omega)
          · rw [upd_same, List.range_succ, List.map_append, List.map_append]
            rfl
      · rintro H3 ⟨hX, e3⟩
        exact ⟨D, _, rfl, hX, e2.trans e3⟩
    · rintro σ H2 ⟨ct, y, rfl, hct, e2⟩
      exact ⟨_, rfl, q ct H2 hct (e1.trans e2)⟩
theorem sc_least_free : FnScope ["book", "counts", "state", "behind", "message", "to"] ["book"] (defScope s_least_free) := ⟨rfl, rfl, rfl, by decide +kernel, rfl, by decide +kernel, by decide +kernel⟩
theorem ok_least_free (T : Tx K mg) : FnOk P w K mg base CX0 5 T.least_free.f T.least_free.fd ["book"] (sp_law_win_free K) := by
  refine T.least_free.F.ok sc_least_free (fun vs H Q E h => ?_) (fun cdv A outer s H vs Q E hr h => ?_)
  · obtain ⟨v, b, rfl, _⟩ := h; rfl
  · obtain ⟨v, b, rfl, hb, ok, hne, q⟩ := h
    have fb := ok.toFormB
    have h8 := fb.eight
    obtain ⟨a, ls, rfl, ha, hls⟩ := id hb
    have llen := Paired.len hls
    obtain ⟨j0, hj0, hfork, hchain⟩ := chain_first ok hne
    refine ⟨_, (pss_cons (ps_if (pt_truth (pe_call (ok_forks_on_rings T) (hr.mono (by decide)) (by rfl) T.forks_on_rings.g T.forks_on_rings.F.kp T.forks_on_rings.b .nil pass0 (pa_cons (pv 0) pa_nil)) (by intro _; rfl))
        (pss_one (ps_ret pe_non))
        pss_nil)
      (pss_cons (ps_set (i := 1) sc_least_free.nd rfl (.inr rfl) (pe_call (ok_ray_counts T) (hr.mono (by decide)) (by rfl) T.ray_counts.g T.ray_counts.F.kp T.ray_counts.b .nil pass0 (pa_cons (pv 0) pa_nil)))
      (pss_cons (ps_set (i := 2) sc_least_free.nd rfl (.inl rfl) pe_int)
      (pss_cons (ps_while PassesOwn.never (pt_cmpR op_eq (pe_callB call_len_seq (by rfl) T.n_len PySem.boot_len (pa_cons (pe_ix ix_tup (pv 0) (pv 2) (fun _ _ => rfl)) pa_nil)) pe_int (nomark _))
        (pss_one (ps_set (i := 2) sc_least_free.nd rfl (.inl rfl) (pe_ix ix_tup (pe_ix ix_tup (pe_ix ix_tup (pv 0) (pv 2) (fun _ _ => rfl)) pe_int (fun _ _ => rfl)) pe_int (fun _ _ => rfl)))))
      (pss_cons (ps_setLc (i := 3) (own := [("message", 4), ("to", 5)]) rfl sc_least_free.nd rfl rfl (sw_true rfl rfl rfl (by decide +kernel)) (pi_tup (pe_ix ix_tup (pv 0) (pv 2) (fun _ _ => rfl))) (blkOk_by (own := [("message", 4), ("to", 5)]) (N := ["book", "counts", "state", "behind", "message", "to"]) (sc := defScope s_least_free) (by decide +kernel)) (fun _ _ _ _ _ => (pg_tupK (n := 2) K rfl (pgs_cons (pg_name (i := 4) sc_least_free.nd rfl (.inl rfl)) (pgs_cons (pg_name (i := 5) sc_least_free.nd rfl (.inl rfl)) pgs_nil)))) (fun _ _ _ _ _ => pts_nil) (fun _ _ _ _ _ => (pe_ix (ix_listK K) (pv 1) (pv 5) (fun _ _ => rfl))))
      (pss_cons (ps_if (PW.pt (pw_or (pt_cmpR op_gt (pe_callB (cr_sum rfl) (by rfl) T.n_sum (by decide +kernel) (pa_cons (pv 3) pa_nil)) pe_int (nomark _)) (pw_or1 (pt_cmpR op_gt (pe_callB (cr_max rfl) (by rfl) T.n_max (by decide +kernel) (pa_cons (pv 3) pa_nil)) pe_int (nomark _)))))
        (pss_one (ps_ret pe_int))
        pss_nil)
      (pss_one (ps_ret pe_int)))))))), ?_⟩
    refine ⟨_, rfl, .ref a, b, rfl, hb, fb, fun t H1 ht e1 => ⟨_, .inr (.inl ⟨_, ht, rfl⟩), ?_⟩⟩
    show (if (!((ringForksM b).map nV).isEmpty) = true then _ else _)
    have em : ((ringForksM b).map nV).isEmpty = (ringForksM b).isEmpty := by cases ringForksM b <;> rfl
    rw [em]
    unfold freeM at q
    by_cases hrf : ringForksM b = []
    · rw [if_pos hrf] at q
      rw [hrf]
      refine iteF ?_
      refine ⟨_, rfl, .ref a, b, rfl, hb.ext0 e1, fb, fun ct H2 hct e2 => ?_⟩
      have f2 := e1.trans e2
      refine ⟨fun m σ H' => ∃ s : Nat, σ = [some (.ref a), some (.ref ct), some (.int s), none, none, none] ∧ Chain b s m (firstF b) ∧ s < b.length ∧ H' = H2, ⟨j0, 0, rfl, hchain, fb.one, rfl⟩, ?_⟩
      rintro m σ H' ⟨s, rfl, hc, hs, rfl⟩
      obtain ⟨u, hu, c, ps, rfl, hcz, hps⟩ := Paired.get hls (mvs_lt hs)
      have plen := Paired.len hps
      have five := (fb.ok hs).few
      have hc2 : SqT K _ c (ps.map V.ref) := (f2.tz Lsts.nil hcz).sq
      refine ⟨_, rfl, _, rfl, a, _, _, _, rfl, rfl, f2.tup Lsts.nil ha, atI_nat hu, c, _, rfl, .inr hc2, rfl, _, rfl, ?_⟩
      have ed : decide (V.int ((ps.map V.ref).length : Int) = V.int 1) = decide ((mvs b s).length = 1) := by
        rw [dec_int, List.length_map, plen]
        exact decide_eq_decide.mpr (by omega)
      rw [ed]
      refine ifB (fun h1 => ?_) (fun h1 => ?_)
      · have h1 := of_decide_eq_true h1
        obtain ⟨p, j, hm, rfl, hc3⟩ := chain_go hc hfork (by omega)
        refine ⟨fun σ H'' => ∃ s : Nat, σ = [some (.ref a), some (.ref ct), some (.int s), none, none, none] ∧ Chain b s j (firstF b) ∧ s < b.length ∧ H'' = H', fun σ' H'' h => ⟨j, by omega, h⟩, ?_⟩
        rw [hm] at hps
        cases hps with
        | @cons g _ gs _ hg hgs =>
          exact ⟨_, rfl, _, rfl, a, _, _, _, rfl, rfl, f2.tup Lsts.nil ha, atI_nat hu, c, _, _, _, rfl, rfl, hc2, atI_nat (j := 0) rfl, g, _, _, _, rfl, rfl, hg.ext0 f2, atI_nat (j := 1) rfl, p.2, rfl, hc3, fb.to (s := s) (by rw [hm]; simp), rfl⟩
      · have h1 := of_decide_eq_false h1
        have hsf : s = firstF b := by
          by_cases h2 : 1 < (mvs b s).length
          · exact (chain_end hc h2).1
          · obtain ⟨p, j, hm, _⟩ := chain_go hc hfork h2
            rw [hm] at h1
            exact absurd rfl h1
        subst hsf
        refine ⟨_, rfl, _, rfl, a, _, _, _, rfl, rfl, f2.tup Lsts.nil ha, atI_nat hu, c, rfl, ⟨_, hc2⟩, fun D hD => ?_⟩
        refine lc_tup (K := K) (a := c) (xs := ps.map V.ref) (fun i H3 => H3 D = some (.lst ((((mvs b (firstF b)).take i).map fun p => cM b 9 p.2).map nV)) ∧ Ext [] H' H3) ⟨by simp; exact upd_same, .new hD⟩ (fun i H3 _ ⟨_, e⟩ => ((f2.trans e).tz Lsts.nil hcz).sq) ?_ ?_
        · rintro i v H3 hv ⟨hX, e⟩
          obtain ⟨g, hg, rfl⟩ := map_at hv
          obtain ⟨p, hpp, hcp⟩ := Paired.get' hps hg
          have hp2 := fb.to (List.mem_of_getElem? hpp)
          refine ⟨g, _, rfl, hcp.ext0 (f2.trans e), rfl, _, _, rfl, _, _, rfl, rfl, rfl, yes ?_⟩
          refine ⟨_, rfl, _, rfl, ct, _, _, _, rfl, rfl, .of (e.at hct (by simp)), atI_nat (cnt_at hp2), ?_⟩
          refine ⟨_, hX, ?_, ?_, e.put hD⟩
          · rw [List.length_map, List.length_map, List.length_take]
            exact small1000 (by omega)
          · rw [upd_same, List.take_add_one, hpp, List.map_append, List.map_append, c_len fb hp2]
            rfl
        · rintro H3 ⟨hX, e⟩
          rw [List.length_map, plen, List.take_length] at hX
          have hX : H3 D = some (.lst ((countL b).map nV)) := hX
          have hXi := hX
          rw [map_nV_int] at hXi
          have fin : ∀ x : Bool, x = decide (2 < (countL b).sum ∨ 2 ∈ countL b) → (x = true → Q (.int 3) H3) ∧ (x = false → Q (.int 2) H3) := fun x hx => by
            have := q H3 (f2.trans e)
            constructor
            · intro h
              rw [hx] at h
              rw [if_pos (of_decide_eq_true h)] at this
              exact this
            · intro h
              rw [hx] at h
              rw [if_neg (of_decide_eq_false h)] at this
              exact this
          refine ⟨_, rfl, D, _, rfl, .of hXi, _, _, rfl, rfl, _, rfl, ?_⟩
          rw [sum_nats]
          by_cases h3 : 2 < (countL b).sum
          · rw [decide_eq_true (show ((countL b).sum : Int) > 2 by omega)]
            exact iteT ((fin true (by rw [decide_eq_true (.inl h3)])).1 rfl)
          · rw [decide_eq_false (show ¬ ((countL b).sum : Int) > 2 by omega)]
            have cl : 0 < ((countL b).map fun n : Nat => (n : Int)).length := by
              unfold countL
              rw [List.length_map, List.length_map]
              have := fork_two hfork
              omega
            refine iteF ⟨_, rfl, D, _, rfl, .of hXi, cl, fun mx hmx hmax => ⟨_, _, rfl, rfl, _, rfl, ?_⟩⟩
            obtain ⟨m, hm, rfl⟩ := List.mem_map.mp hmx
            have key := most_two h3 hm fun y hy => by
              have := hmax (y : Int) (List.mem_map.mpr ⟨y, hy, rfl⟩)
              omega
            by_cases h2 : 2 ∈ countL b
            · rw [decide_eq_true (show (m : Int) > 1 by have := key.mpr h2; omega)]
              exact iteT ((fin true (by rw [decide_eq_true (.inr h2)])).1 rfl)
            · rw [decide_eq_false (show ¬ (m : Int) > 1 by intro z; exact h2 (key.mp (by omega)))]
              exact iteF ((fin false (by rw [decide_eq_false (fun z => z.elim h3 h2)])).2 rfl)
    · rw [if_neg hrf] at q
      have : (ringForksM b).isEmpty = false := by cases h : ringForksM b with | nil => exact absurd h hrf | cons _ _ => rfl
      rw [this]
      exact iteT (q _ e1)
end
end Nv
set_option Elab.async false
set_option linter.all false
set_option maxRecDepth 100000
namespace Nv
open PySem PySem.Spec PyProof.Rows L2
section
variable {P : Program} {w : World} {K : PySem.W.Frag} {mg : Str → Option Value} {base : Heap}
/-! ### windows, or none -/
theorem FnOk.or {P : Program} {w : World} {K : PySem.W.Frag} {mg : Str → Option Value} {base : Heap} {CX : CXT} {k : Nat} {f : Addr} {fd : FuncData} {ps : List Str} {sp1 sp2 sp : Sp} (F1 : FnOk P w K mg base CX k f fd ps sp1) (F2 : FnOk P w K mg base CX k f fd ps sp2)
    (h : ∀ vs H Q E, sp vs H Q E → sp1 vs H Q E ∨ sp2 vs H Q E) : FnOk P w K mg base CX k f fd ps sp :=
  ⟨fun vs H Q E z => (h vs H Q E z).elim (F1.len vs H Q E) (F2.len vs H Q E), fun A outer s H args us vs Q E a b c d z => (h vs H Q E z).elim (F1.run A outer s H args us vs Q E a b c d) (F2.run A outer s H args us vs Q E a b c d)⟩
/-- the least number for this window -/
noncomputable def lwF (b : Book) (W : Nat) : Nat := leastM b (Classical.choose (last_ex b W))
theorem lwF_eq {b : Book} {W : Nat} {res : List (Option Int)} {fin : List Nat} (h : LastM b W res fin) : leastM b res = lwF b W := by
  obtain ⟨fin', h'⟩ := Classical.choose_spec (last_ex b W)
  unfold lwF
  rw [last_fun h h']
theorem lwF_le (b : Book) (W : Nat) : lwF b W ≤ 3 := by
  unfold lwF leastM
  split
  · omega
  · split
    · omega
    · split <;> omega
/-- the window u, and the least number x for it -/
def WinR (b : Book) (u x : V) : Prop := (u = .non ∧ x = oN (leastN b)) ∨ ∃ W : Nat, u = .int W ∧ 1 ≤ W ∧ x = nV (lwF b W)
theorem winR_ex {b : Book} {u : V} (h : u = .non ∨ ∃ W : Nat, u = .int W ∧ 1 ≤ W) : ∃ x, WinR b u x := by
  rcases h with rfl | ⟨W, rfl, hW⟩
  · exact ⟨_, .inl ⟨rfl, rfl⟩⟩
  · exact ⟨_, .inr ⟨W, rfl, hW, rfl⟩⟩
def sp_winA (K : PySem.W.Frag) : Sp := fun vs H Q _ => ∃ (v u x : V) (b : Book), vs = [v, u] ∧ BkV K H v b ∧ OkB b ∧ WinR b u x ∧ ∀ H', Ext [] H H' → Q x H'

def sp_least_forN (K : PySem.W.Frag) : Sp := fun vs H Q _ => ∃ (v : V) (b : Book), vs = [v, .non] ∧ BkV K H v b ∧ OkB b ∧ ∀ (H' : Hp), Ext [] H H' → Q (oN (leastN b)) H'
theorem okN_least_for (T : Tx K mg) : FnOk P w K mg base CX0 6 T.least_for.f T.least_for.fd ["book", "window"] (sp_least_forN K) := by
  refine T.least_for.F.ok sc_least_for (fun vs H Q E h => ?_) (fun cdv A outer s H vs Q E hr h => ?_)
  · obtain ⟨v, b, rfl, _⟩ := h; rfl
  · obtain ⟨v, b, rfl, hb, ok, q⟩ := h
    have fb := ok.toFormB
    obtain ⟨a, ls, rfl, ha, hls⟩ := id hb
    obtain ⟨u, hu, c, ps, rfl, hc, hps⟩ := Paired.get hls (mvs_lt (b := b) (s := 0) fb.one)
    unfold leastN at q
    refine ⟨_, (pss_cons (ps_if (pt_not (pt_truth (pe_ix ix_tup (pv 0) pe_int (fun _ _ => rfl)) (by intro _; rfl)))
        (pss_one (ps_ret pe_int))
        pss_nil)
      (pss_cons (ps_if (pt_not (pt_truth (pe_call (ok_fork_states T) (hr.mono (by decide)) (by rfl) T.fork_states.g T.fork_states.F.kp T.fork_states.b .nil pass0 (pa_cons (pv 0) pa_nil)) (by intro _; rfl)))
        (pss_one (ps_ret pe_int))
        pss_nil)
      (pss_cons (ps_if (pt_cmpR op_isN (pv 1) pe_non (nomark _))
        (pss_one (ps_ret (pe_call (ok_least_free T) (hr.mono (by decide)) (by rfl) T.least_free.g T.least_free.F.kp T.least_free.b .nil pass0 (pa_cons (pv 0) pa_nil))))
        pss_nil)
      (pss_cons ps_never
      (pss_one ps_never))))), ?_⟩
    refine ⟨_, rfl, a, _, _, _, rfl, rfl, ha, atI_nat (j := 0) hu, _, .inr (.inl ⟨_, hc.sq, rfl⟩), ?_⟩
    show (if (!(!(ps.map V.ref).isEmpty)) = true then _ else _)
    have em : (ps.map V.ref).isEmpty = (mvs b 0).isEmpty := by
      have plen := Paired.len hps
      cases ps <;> cases h : mvs b 0 <;> rw [h] at plen <;> simp at plen <;> rfl
    rw [em, Bool.not_not]
    refine ifB (fun z => ?_) (fun z => ?_)
    · have z : mvs b 0 = [] := List.isEmpty_iff.mp z
      rw [if_pos z] at q
      exact q _ .refl
    · have z : mvs b 0 ≠ [] := fun y => by rw [y] at z; cases z
      rw [if_neg z] at q
      refine ⟨_, rfl, .ref a, b, rfl, hb, fb.eight, fun t H1 ht e1 => ⟨_, .inr (.inl ⟨_, ht, rfl⟩), ?_⟩⟩
      show (if (!(!((forksM b).map nV).isEmpty)) = true then _ else _)
      have em : ((forksM b).map nV).isEmpty = (forksM b).isEmpty := by cases forksM b <;> rfl
      rw [em, Bool.not_not]
      refine ifB (fun y => ?_) (fun y => ?_)
      · have y : forksM b = [] := List.isEmpty_iff.mp y
        rw [if_pos y] at q
        exact q _ e1
      · have y : forksM b ≠ [] := fun x => by rw [x] at y; cases y
        rw [if_neg y] at q
        refine ⟨_, rfl, rfl, _, rfl, ?_⟩
        rw [decide_eq_true (show V.non = V.non from rfl)]
        exact iteT ⟨_, rfl, .ref a, b, rfl, hb.ext0 e1, ok, y, fun H' e => q H' (e1.trans e)⟩
theorem okA_least_for (T : Tx K mg) : FnOk P w K mg base CX0 6 T.least_for.f T.least_for.fd ["book", "window"] (sp_winA K) :=
  FnOk.or (ok_least_for T) (okN_least_for T) fun vs H Q E ⟨v, u, x, b, e, hb, ok, hw, q⟩ => by
    rcases hw with ⟨rfl, rfl⟩ | ⟨W, rfl, hW, rfl⟩
    · exact .inr ⟨v, b, e, hb, ok, q⟩
    · exact .inl ⟨v, b, W, e, hb, ok.toFormB, hW, fun res fin H' hL e => by rw [lwF_eq hL]; exact q H' e⟩
/-! ### the windows 1 to 9 -/
/-- the least numbers for the windows 1 to 9 -/
noncomputable def nineL (b : Book) : List Nat := (List.range 9).map fun i => lwF b (i + 1)
theorem sc_verdict : FnScope ["book", "window"] ["book"] (defScope s_verdict) := ⟨rfl, rfl, rfl, by decide +kernel, rfl, by decide +kernel, by decide +kernel⟩
def sp_verdict (K : PySem.W.Frag) : Sp := fun vs H Q _ => ∃ (v : V) (b : Book), vs = [v] ∧ BkV K H v b ∧ OkB b ∧ ∀ (t t1 : Addr) (H' : Hp), SqT K H' t [.ref t1, oN (leastN b)] → SqT K H' t1 ((nineL b).map nV) → Ext [] H H' → Q (.ref t) H'
theorem ok_verdict (T : Tx K mg) : FnOk P w K mg base CX0 7 T.verdict.f T.verdict.fd ["book"] (sp_verdict K) := by
  refine T.verdict.F.ok sc_verdict (fun vs H Q E h => ?_) (fun cdv A outer s H vs Q E hr h => ?_)
  · obtain ⟨v, b, rfl, _⟩ := h; rfl
  · obtain ⟨v, b, rfl, hb, ok, q⟩ := h
    refine ⟨_, (pss_cons (ps_expr (pe_call (ok_made_book T) (hr.mono (by decide)) (by rfl) T.made_book.g T.made_book.F.kp T.made_book.b .nil pass0 (pa_cons (pv 0) pa_nil)))
      (pss_one (ps_ret (pe_tup (pa_cons (pe_callTy call_tupZ (by rfl) T.n_tuple (by decide +kernel) (pa_cons (pe_lc (own := [("window", 1)]) rfl sc_verdict.nd (pi_range2 (by rfl) T.n_range (pa_cons pe_int (pa_cons (pe_op op_add (pe_glob (v := .int 9) (by rfl) T.c_LAST_WINDOW.choose_spec ⟨_, rfl⟩) pe_int) pa_nil))) (blkOk_by (own := [("window", 1)]) (N := ["book", "window"]) (sc := defScope s_verdict) (by decide +kernel)) (fun _ _ _ _ _ => (pg_name (i := 1) sc_verdict.nd rfl (.inl rfl))) (fun _ _ _ _ _ => pts_nil) (fun _ _ _ _ _ => (pe_call (okA_least_for T) (hr.mono (by decide)) (by rfl) T.least_for.g T.least_for.F.kp T.least_for.b .nil pass0 (pa_cons (pv 0) (pa_cons (pv 1) pa_nil))))) pa_nil)) (pa_cons (pe_call (okA_least_for T) (hr.mono (by decide)) (by rfl) T.least_for.g T.least_for.F.kp T.least_for.b .nil pass0 (pa_cons (pv 0) (pa_cons pe_non pa_nil))) pa_nil)))))), ?_⟩
    refine ⟨_, rfl, v, b, rfl, hb, ok, fun H1 e1 => ?_⟩
    refine ⟨_, _, rfl, rfl, 1, 10, rfl, ⟨by decide, by decide, by decide, by decide⟩, fun D hD => ?_⟩
    refine lc_range (lo := 1) (n := 9) (fun i H' => H' D = some (.lst (((List.range i).map fun i => lwF b (i + 1)).map nV)) ∧ Ext [] H1 H') ⟨upd_same, .new hD⟩ ?_ ?_
    · rintro m H' hm ⟨hX, e⟩
      have em : (1 : Int) + (m : Int) = ((m + 1 : Nat) : Int) := by omega
      rw [em]
      refine ⟨rfl, yes ?_⟩
      refine ⟨_, rfl, _, rfl, v, _, _, b, rfl, hb.ext0 (e1.trans e), ok, .inr ⟨m + 1, rfl, by omega, rfl⟩, fun H2 e2 => ?_⟩
      refine ⟨_, e2.at hX (by simp), ?_, ?_, (e.trans e2).put hD⟩
      · rw [List.length_map, List.length_map, List.length_range]
        exact small1000 (by omega)
      · rw [upd_same, List.range_succ, List.map_append, List.map_append]
        rfl
    · rintro H2 ⟨hX, e2⟩
      have hX : H2 D = some (.lst ((nineL b).map nV)) := hX
      refine ⟨D, _, rfl, .of hX, fun t1 H3 ht1 hH3 => ?_⟩
      obtain ⟨o, _, rfl⟩ := hH3
      have e3 : Ext [] H2 (upd H2 t1 (.frz o (.tup ((nineL b).map nV)))) := .new ht1
      refine ⟨_, rfl, v, .non, _, b, rfl, hb.ext0 ((e1.trans e2).trans e3), ok, .inl ⟨rfl, rfl⟩, fun H4 e4 => ⟨(by show 2 ≤ sizeLine; decide), fun t ht => ?_⟩⟩
      have e5 : Ext [] H4 (upd H4 t (.tup [.ref t1, oN (leastN b)])) := .new ht
      exact q t t1 _ (.of upd_same) ((e4.trans e5).tup Lsts.nil (.inl (.inr ⟨o, upd_same⟩))) ((((e1.trans e2).trans e3).trans e4).trans e5)
end
end Nv
set_option linter.all false
namespace Nv
/-! ### the order in which states are met -/
def addS (F : List Nat) : State → List Nat
  | [] => F
  | p :: r => addS (if p.2 ∈ F then F else F ++ [p.2]) r
def stB (b : Book) : Nat → List Nat
  | 0 => [0]
  | i + 1 => match (stB b i)[i]? with
    | some s => addS (stB b i) (mvs b s)
    | none => stB b i
def ordB (b : Book) : List Nat := stB b b.length
theorem addS_append : ∀ (l r : State) (F : List Nat), addS F (l ++ r) = addS (addS F l) r
  | [], _, _ => rfl
  | p :: l, r, F => by
    show addS _ (l ++ r) = addS (addS _ l) r
    exact addS_append l r _
theorem addS_take {F G : List Nat} {p : Nat × Nat} {ms : State} {k : Nat} (h : ms[k]? = some p) (e : F = addS G (ms.take k)) : addS G (ms.take (k + 1)) = if p.2 ∈ F then F else F ++ [p.2] := by
  rw [List.take_add_one, h]
  show addS G (ms.take k ++ [p]) = _
  rw [addS_append, ← e]
  rfl
theorem addS_pre : ∀ (l : State) (F : List Nat), F <+: addS F l
  | [], F => List.prefix_refl _
  | p :: l, F => by
    show F <+: addS (if p.2 ∈ F then F else F ++ [p.2]) l
    split
    · exact addS_pre l F
    · exact (List.prefix_append _ _).trans (addS_pre l _)
theorem stB_step {b : Book} {i s : Nat} (h : (stB b i)[i]? = some s) : stB b (i + 1) = addS (stB b i) (mvs b s) := by
  show (match (stB b i)[i]? with
    | some s => addS (stB b i) (mvs b s)
    | none => stB b i) = _
  rw [h]
theorem stB_rest {b : Book} {i : Nat} (h : (stB b i).length ≤ i) : ∀ k, stB b (i + k) = stB b i
  | 0 => rfl
  | k + 1 => by
    have ih := stB_rest h k
    show (match (stB b (i + k))[i + k]? with
      | some s => addS (stB b (i + k)) (mvs b s)
      | none => stB b (i + k)) = _
    rw [ih, List.getElem?_eq_none (by omega)]
theorem stB_pre {b : Book} (i : Nat) : ∀ k, stB b i <+: stB b (i + k)
  | 0 => List.prefix_refl _
  | k + 1 => by
    refine (stB_pre i k).trans ?_
    show stB b (i + k) <+: (match (stB b (i + k))[i + k]? with
      | some s => addS (stB b (i + k)) (mvs b s)
      | none => stB b (i + k))
    split
    · exact addS_pre _ _
    · exact List.prefix_refl _
theorem stB_end {b : Book} {i : Nat} (h : (stB b i).length ≤ i) (hi : i ≤ b.length) : ordB b = stB b i := by
  obtain ⟨k, hk⟩ := Nat.le.dest hi
  unfold ordB
  rw [← hk]
  exact stB_rest h k
structure MetIO (b : Book) (F : List Nat) (i : Nat) : Prop extends MetI b F i where
  eq : F = stB b i
structure MetWO (b : Book) (F : List Nat) (i s k : Nat) : Prop extends MetW b F i s k where
  eq : F = addS (stB b i) ((mvs b s).take k)
structure MetO (b : Book) (F : List Nat) : Prop extends Met b F where
  eq : F = ordB b
theorem MetIO.first {b : Book} (h : 1 ≤ b.length) : MetIO b [0] 0 := ⟨.first h, rfl⟩
theorem MetIO.begin {b : Book} {F : List Nat} {i s : Nat} (m : MetIO b F i) (h : F[i]? = some s) : MetWO b F i s 0 := ⟨m.toMetI.begin h, by rw [m.eq]; rfl⟩
theorem MetWO.skip {b : Book} {F : List Nat} {i s k : Nat} {p : Nat × Nat} (m : MetWO b F i s k) (h : (mvs b s)[k]? = some p) (hp : p.2 ∈ F) : MetWO b F i s (k + 1) := ⟨m.toMetW.skip h hp, by rw [addS_take h m.eq, if_pos hp]⟩
theorem MetWO.push {b : Book} {F : List Nat} {i s k : Nat} {p : Nat × Nat} (m : MetWO b F i s k) (h : (mvs b s)[k]? = some p) (hp : p.2 ∉ F) (hb : p.2 < b.length) : MetWO b (F ++ [p.2]) i s (k + 1) := ⟨m.toMetW.push h hp hb, by rw [addS_take h m.eq, if_neg hp]⟩
theorem MetWO.pre {b : Book} {F : List Nat} {i s k : Nat} (m : MetWO b F i s k) : stB b i <+: F := by
  rw [m.eq]
  exact addS_pre _ _
theorem stB_len (b : Book) : ∀ i, 1 ≤ (stB b i).length
  | 0 => Nat.le_refl _
  | i + 1 => by
    have h := (stB_pre (b := b) i 1).length_le
    have := stB_len b i
    show 1 ≤ (stB b (i + 1)).length
    omega
theorem MetWO.done {b : Book} {F : List Nat} {i s k : Nat} (m : MetWO b F i s k) (g : (stB b i)[i]? = some s) (hk : (mvs b s).length ≤ k) : MetIO b F (i + 1) := ⟨m.toMetW.done hk, by
  rw [stB_step g, m.eq, List.take_of_length_le hk]⟩
theorem MetIO.met {b : Book} {F : List Nat} {i : Nat} (m : MetIO b F i) (h : i = F.length) : MetO b F := ⟨m.toMetI.met (.inl h), by
  rw [stB_end (i := i) (by rw [← m.eq]; omega) (by rw [h]; exact nodup_le m.nd m.lt)]
  exact m.eq⟩
theorem metO {b : Book} (fb : FormB b) : MetO b (ordB b) := by
  have row : ∀ {F : List Nat} {i s : Nat}, MetIO b F i → F[i]? = some s → ∀ k, k ≤ (mvs b s).length → ∃ F', MetWO b F' i s k := by
    intro F i s mi hs k
    induction k with
    | zero => exact fun _ => ⟨F, mi.begin hs⟩
    | succ k ih =>
      intro hk
      obtain ⟨F', mw⟩ := ih (by omega)
      have hp : (mvs b s)[k]? = some (mvs b s)[k] := List.getElem?_eq_getElem (by omega)
      by_cases hin : (mvs b s)[k].2 ∈ F'
      · exact ⟨F', mw.skip hp hin⟩
      · exact ⟨_, mw.push hp hin (fb.to (List.getElem_mem _))⟩
  have all : ∀ n, ∃ i F, MetIO b F i ∧ (i = F.length ∨ i = n) := by
    intro n
    induction n with
    | zero => exact ⟨0, [0], .first fb.one, .inr rfl⟩
    | succ n ih =>
      obtain ⟨i, F, mi, h⟩ := ih
      by_cases hi : i < F.length
      · have hs : F[i]? = some F[i] := List.getElem?_eq_getElem hi
        obtain ⟨F', mw⟩ := row mi hs _ (Nat.le_refl _)
        have g : (stB b i)[i]? = some F[i] := by rw [← mi.eq]; exact hs
        refine ⟨i + 1, F', mw.done g (Nat.le_refl _), .inr ?_⟩
        omega
      · have := mi.le
        exact ⟨i, F, mi, .inl (by omega)⟩
  obtain ⟨i, F, mi, h⟩ := all b.length
  have h1 : F.length ≤ b.length := nodup_le mi.nd mi.lt
  have h2 := mi.le
  have mo := mi.met (by omega)
  rw [mo.eq] at mo
  exact mo
theorem ren_okB {b : Book} (fb : FormB b) : OkB (rename b (ordB b)) :=
  (metO fb).toMet.okB fb.eight fun s hs => ⟨(fb.ok hs).few, (fb.ok hs).rise, (fb.ok hs).msg⟩
/-! ### the book by its own numbers -/
theorem ren_in {F G : List Nat} (nd : F.Nodup) (pre : G <+: F) {x : Nat} (hx : x ∈ F) : F.idxOf x ∈ List.range G.length ↔ x ∈ G := by
  obtain ⟨R, rfl⟩ := pre
  rw [List.mem_range]
  constructor
  · intro h
    by_cases hG : x ∈ G
    · exact hG
    · rw [List.idxOf_append, if_neg hG] at h
      omega
  · intro h
    rw [List.idxOf_append, if_pos h]
    exact List.idxOf_lt_length_of_mem h
theorem addS_ren {F : List Nat} (nd : F.Nodup) : ∀ (ms : State) (G : List Nat), addS G ms <+: F → (∀ p ∈ ms, p.2 ∈ F) → addS (List.range G.length) (ms.map fun p => (p.1, F.idxOf p.2)) = List.range (addS G ms).length
  | [], _, _, _ => rfl
  | p :: r, G, pre, hF => by
    have pre0 : addS (if p.2 ∈ G then G else G ++ [p.2]) r <+: F := pre
    have preG : G <+: F := (addS_pre (p :: r) G).trans pre
    have hp := hF p (List.mem_cons_self ..)
    have ih := addS_ren nd r (if p.2 ∈ G then G else G ++ [p.2]) pre0 fun q hq => hF q (List.mem_cons_of_mem _ hq)
    show addS (if F.idxOf p.2 ∈ List.range G.length then List.range G.length else List.range G.length ++ [F.idxOf p.2]) (r.map fun p => (p.1, F.idxOf p.2)) = List.range (addS (if p.2 ∈ G then G else G ++ [p.2]) r).length
    rw [← ih]
    by_cases h : p.2 ∈ G
    · rw [if_pos ((ren_in nd preG hp).mpr h), if_pos h]
    · rw [if_neg (fun z => h ((ren_in nd preG hp).mp z)), if_neg h]
      have pre1 : G ++ [p.2] <+: F := by
        rw [if_neg h] at pre0
        exact (addS_pre _ _).trans pre0
      obtain ⟨R, rfl⟩ := pre1
      have e : (G ++ [p.2] ++ R).idxOf p.2 = G.length := by
        rw [List.append_assoc, List.idxOf_append, if_neg h]
        simp
      rw [e, List.length_append, List.length_singleton, List.range_succ]
theorem stB_ren {b : Book} {F : List Nat} (m : MetO b F) (hm : ∀ s ∈ F, ∀ p ∈ mvs b s, p.2 ∈ F) : ∀ i, stB (rename b F) i = List.range (stB b i).length
  | 0 => rfl
  | i + 1 => by
    have ih := stB_ren m hm i
    have pre : stB b (i + 1) <+: F := by
      rw [m.eq]
      by_cases h : i + 1 ≤ b.length
      · obtain ⟨k, hk⟩ := Nat.le.dest h
        unfold ordB
        rw [← hk]
        exact stB_pre _ _
      · have hl : (ordB b).length ≤ b.length := by rw [← m.eq]; exact nodup_le m.nd m.lt
        obtain ⟨k, hk⟩ := Nat.le.dest (show b.length ≤ i + 1 by omega)
        have := stB_rest (b := b) (i := b.length) hl k
        rw [← hk, this]
        exact List.prefix_refl _
    have pre0 : stB b i <+: F := (stB_pre i 1).trans pre
    cases hs : (stB b i)[i]? with
    | none =>
      have hl := List.getElem?_eq_none_iff.mp hs
      have e1 := stB_rest (b := b) hl 1
      have e2 := stB_rest (b := rename b F) (i := i) (by rw [ih, List.length_range]; exact hl) 1
      rw [e1, e2, ih]
    | some s =>
      have hl := (List.getElem?_eq_some_iff.mp hs).1
      have hF : F[i]? = some s := by
        obtain ⟨R, rfl⟩ := pre0
        rw [List.getElem?_append_left hl]
        exact hs
      have hsF := List.mem_of_getElem? hF
      rw [stB_step hs] at pre ⊢
      have hr : (stB (rename b F) i)[i]? = some i := by rw [ih, List.getElem?_range hl]
      rw [stB_step hr, rename_at hF, ih]
      exact addS_ren m.nd _ _ pre fun p hp => hm s hsF p hp
theorem ren_self {b : Book} {F : List Nat} (m : MetO b F) : ordB (rename b F) = List.range F.length ∧ rename (rename b F) (List.range F.length) = rename b F := by
  have e : ordB (rename b F) = List.range F.length := by
    have h := stB_ren m m.cl
    have hl : F.length ≤ b.length := nodup_le m.nd m.lt
    have hF : stB b F.length = F := by
      have hpre : stB b F.length <+: F := by
        rw [m.eq]
        obtain ⟨k, hk⟩ := Nat.le.dest (show (ordB b).length ≤ b.length by rw [← m.eq]; exact hl)
        have := stB_pre (b := b) (ordB b).length k
        rw [hk] at this
        exact this
      -- at F.length all is met
      have : ∀ i, i ≤ F.length → i < (stB b i).length ∨ stB b i = F := by
        intro i hi
        by_cases hc : (stB b i).length ≤ i
        · refine .inr ?_
          rw [m.eq, stB_end hc (by omega)]
        · exact .inl (by omega)
      rcases this F.length (Nat.le_refl _) with h1 | h1
      · have := hpre.length_le
        omega
      · exact h1
    show stB (rename b F) (rename b F).length = _
    rw [rename_len, h, hF]
  refine ⟨e, ?_⟩
  refine List.ext_getElem? fun k => ?_
  unfold rename
  rw [List.getElem?_map]
  by_cases hk : k < F.length
  · rw [List.getElem?_range hk, List.getElem?_map, List.getElem?_eq_getElem hk]
    have hF : F[k]? = some F[k] := List.getElem?_eq_getElem hk
    show some ((mvs (rename b F) k).map fun p => (p.1, (List.range F.length).idxOf p.2)) = some ((mvs b F[k]).map fun p => (p.1, F.idxOf p.2))
    rw [rename_at hF, List.map_map]
    refine congrArg some (List.map_congr_left fun p hp => ?_)
    have hm := m.cl _ (List.getElem_mem hk) p hp
    have hlt := List.idxOf_lt_length_of_mem hm
    show (p.1, (List.range F.length).idxOf (F.idxOf p.2)) = (p.1, F.idxOf p.2)
    rw [idx_of List.nodup_range (List.getElem?_range hlt)]
  · rw [List.getElem?_eq_none (by rw [List.length_range]; omega), List.getElem?_map, List.getElem?_eq_none (by omega)]
    rfl
end Nv
set_option linter.all false
namespace Nv
/-! ### a list's things in the order in which they come first -/
section
variable {α β : Type} [DecidableEq α] [DecidableEq β]
def firsts (l : List α) : List α := l.foldl (fun F x => if x ∈ F then F else F ++ [x]) []
theorem firsts_snoc (l : List α) (x : α) : firsts (l ++ [x]) = if x ∈ firsts l then firsts l else firsts l ++ [x] := by
  unfold firsts
  rw [List.foldl_append]
  rfl
theorem snoc_ind {P : List α → Prop} (h0 : P []) (h1 : ∀ l x, P l → P (l ++ [x])) (l : List α) : P l := by
  have key : ∀ r : List α, P r.reverse := by
    intro r
    induction r with
    | nil => exact h0
    | cons a r ih =>
      rw [List.reverse_cons]
      exact h1 _ _ ih
  have := key l.reverse
  rwa [List.reverse_reverse] at this
theorem mem_firsts {l : List α} {y : α} : y ∈ firsts l ↔ y ∈ l := by
  induction l using snoc_ind with
  | h0 => exact Iff.rfl
  | h1 l x ih =>
    rw [firsts_snoc]
    split
    · rename_i h
      rw [ih, List.mem_append, List.mem_singleton]
      constructor
      · exact .inl
      · rintro (h2 | rfl)
        · exact h2
        · exact ih.mp h
    · rw [List.mem_append, List.mem_append, ih]
theorem firsts_nd (l : List α) : (firsts l).Nodup := by
  induction l using snoc_ind with
  | h0 => exact List.nodup_nil
  | h1 l x ih =>
    rw [firsts_snoc]
    split
    · exact ih
    · rename_i h
      exact List.nodup_append.mpr ⟨ih, by simp, fun a ha b hb e => h (by rw [List.mem_singleton.mp hb] at e; rw [← e]; exact ha)⟩
theorem firsts_le (l : List α) : (firsts l).length ≤ l.length := by
  induction l using snoc_ind with
  | h0 => exact Nat.le_refl _
  | h1 l x ih =>
    rw [firsts_snoc]
    split
    · rw [List.length_append]; omega
    · rw [List.length_append, List.length_append]; omega
theorem firsts_pos {l : List α} (h : l ≠ []) : 1 ≤ (firsts l).length := by
  obtain ⟨x, hx⟩ := List.exists_mem_of_ne_nil _ h
  exact List.length_pos_of_mem (mem_firsts.mpr hx)
theorem idx_any {F : List α} (nd : F.Nodup) {j : Nat} {s : α} (h : F[j]? = some s) : F.idxOf s = j := by
  obtain ⟨hj, e⟩ := List.getElem?_eq_some_iff.mp h
  rw [← e]
  exact List.Nodup.idxOf_getElem nd j hj
theorem firsts_head {l : List α} {x : α} (h : l[0]? = some x) : (firsts l)[0]? = some x := by
  induction l using snoc_ind with
  | h0 => cases h
  | h1 l y ih =>
    rw [firsts_snoc]
    by_cases e : l = []
    · subst e
      simp at h
      subst h
      rfl
    · have hl : 0 < l.length := List.length_pos_iff.mpr e
      rw [List.getElem?_append_left hl] at h
      have ih := ih h
      split
      · exact ih
      · rw [List.getElem?_append_left (List.getElem?_eq_some_iff.mp ih).1]
        exact ih
/-- by numbers -/
def numOf (l : List α) : List Nat := l.map (firsts l).idxOf
theorem idxOf_app {F : List α} {x y : α} (h : x ∈ F) : (F ++ [y]).idxOf x = F.idxOf x := by rw [List.idxOf_append, if_pos h]
theorem idxOf_new {F : List α} {y : α} (h : y ∉ F) : (F ++ [y]).idxOf y = F.length := by
  rw [List.idxOf_append, if_neg h]
  simp
theorem numOf_snoc (l : List α) (x : α) : numOf (l ++ [x]) = numOf l ++ [(firsts (l ++ [x])).idxOf x] := by
  unfold numOf
  rw [List.map_append]
  congr 1
  refine List.map_congr_left fun y hy => ?_
  rw [firsts_snoc]
  split
  · rfl
  · exact idxOf_app (mem_firsts.mpr hy)
theorem numOf_firsts (l : List α) : firsts (numOf l) = List.range (firsts l).length := by
  induction l using snoc_ind with
  | h0 => rfl
  | h1 l x ih =>
    rw [numOf_snoc, firsts_snoc (numOf l), ih]
    rw [firsts_snoc l]
    by_cases h : x ∈ firsts l
    · rw [if_pos h]
      have : (firsts l).idxOf x ∈ List.range (firsts l).length := List.mem_range.mpr (List.idxOf_lt_length_of_mem h)
      rw [if_pos this]
    · rw [if_neg h, idxOf_new h]
      have : (firsts l).length ∉ List.range (firsts l).length := fun z => by have := List.mem_range.mp z; omega
      rw [if_neg this, List.length_append, List.length_singleton, List.range_succ]
theorem numOf_len (l : List α) : (numOf l).length = l.length := by unfold numOf; rw [List.length_map]
theorem numOf_at {l : List α} {i : Nat} {x : α} (h : l[i]? = some x) : (numOf l)[i]? = some ((firsts l).idxOf x) := by
  unfold numOf
  rw [List.getElem?_map, h]
  rfl
/-- what a number stands for -/
theorem numOf_get {l : List α} {i : Nat} {x : α} (h : l[i]? = some x) : (firsts l)[(firsts l).idxOf x]? = some x := by
  have hm := mem_firsts.mpr (List.mem_of_getElem? h)
  have hl := List.idxOf_lt_length_of_mem hm
  rw [List.getElem?_eq_getElem hl]
  exact congrArg some (List.getElem_idxOf hl)
theorem numOf_self {l : List Nat} {m : Nat} (h : firsts l = List.range m) : numOf l = l := by
  unfold numOf
  rw [h]
  conv => rhs; rw [← List.map_id l]
  refine List.map_congr_left fun x hx => ?_
  have hx' : x ∈ List.range m := by rw [← h]; exact mem_firsts.mpr hx
  exact idx_of List.nodup_range (List.getElem?_range (List.mem_range.mp hx'))
/-- a thing's place -/
def plc (F : List α) (x : α) : Nat := F.idxOf x
theorem plc_self {x : α} {F : List α} : plc (x :: F) x = 0 := List.idxOf_cons_self
theorem plc_ne {x y : α} {F : List α} (h : ¬ y = x) : plc (y :: F) x = plc F x + 1 := by
  have e : (y == x) = false := beq_eq_false_iff_ne.mpr h
  show List.idxOf x (y :: F) = List.idxOf x F + 1
  rw [List.idxOf_cons, e]
  rfl
theorem numOf_plc {l : List α} {i : Nat} {x : α} (h : l[i]? = some x) : (numOf l)[i]? = some (plc (firsts l) x) := numOf_at h
/-- two lists, the first of which parts all that the second one parts -/
theorem firsts_two : ∀ (l : List (α × β)), (∀ p ∈ l, ∀ q ∈ l, p.1 = q.1 → p.2 = q.2) → (firsts (l.map (·.2))).length ≤ (firsts (l.map (·.1))).length ∧
    ((firsts (l.map (·.2))).length = (firsts (l.map (·.1))).length → numOf (l.map (·.1)) = numOf (l.map (·.2))) := by
  intro l
  induction l using snoc_ind with
  | h0 => exact fun _ => ⟨Nat.le_refl _, fun _ => rfl⟩
  | h1 l z ih =>
    intro h
    obtain ⟨i1, i2⟩ := ih fun p hp q hq => h p (List.mem_append_left _ hp) q (List.mem_append_left _ hq)
    have e1 : (l ++ [z]).map (·.1) = l.map (·.1) ++ [z.1] := by rw [List.map_append]; rfl
    have e2 : (l ++ [z]).map (·.2) = l.map (·.2) ++ [z.2] := by rw [List.map_append]; rfl
    rw [e1, e2, numOf_snoc, numOf_snoc, firsts_snoc, firsts_snoc]
    by_cases h1 : z.1 ∈ firsts (l.map (·.1))
    · obtain ⟨p, hp, ep⟩ := List.mem_map.mp (mem_firsts.mp h1)
      have e : p.2 = z.2 := h p (List.mem_append_left _ hp) z (by simp) ep
      have h2 : z.2 ∈ firsts (l.map (·.2)) := mem_firsts.mpr (List.mem_map.mpr ⟨p, hp, e⟩)
      rw [if_pos h1, if_pos h2]
      refine ⟨i1, fun q => ?_⟩
      have n := i2 q
      rw [n]
      congr 2
      obtain ⟨j, hj, ej⟩ := List.mem_iff_getElem.mp hp
      have a1 := numOf_at (l := l.map (·.1)) (i := j) (x := p.1) (by rw [List.getElem?_map, List.getElem?_eq_getElem hj, ej]; rfl)
      have a2 := numOf_at (l := l.map (·.2)) (i := j) (x := p.2) (by rw [List.getElem?_map, List.getElem?_eq_getElem hj, ej]; rfl)
      rw [n, a2] at a1
      rw [← ep, ← e]
      exact (Option.some.inj a1).symm
    · rw [if_neg h1, List.length_append, List.length_singleton]
      by_cases h2 : z.2 ∈ firsts (l.map (·.2))
      · rw [if_pos h2]
        exact ⟨by omega, fun q => absurd q (by omega)⟩
      · rw [if_neg h2, List.length_append, List.length_singleton]
        refine ⟨by omega, fun q => ?_⟩
        have q : (firsts (l.map (·.2))).length = (firsts (l.map (·.1))).length := by omega
        rw [i2 q, idxOf_new h1, idxOf_new h2, q]
end
/-! ### kinds of states, round by round -/
def signB (ks : List Nat) (s : State) : State := s.map fun p => (p.1, ks.getD p.2 0)
def signsB (b : Book) (ks : List Nat) : Book := b.map (signB ks)
theorem signsB_len {b : Book} {ks : List Nat} : (signsB b ks).length = b.length := by unfold signsB; rw [List.length_map]
theorem signsB_at {b : Book} {ks : List Nat} {s : Nat} (h : s < b.length) : (signsB b ks)[s]? = some (signB ks (mvs b s)) := by
  unfold signsB
  rw [List.getElem?_map, mvs_lt h]
  rfl
structure KInv (b : Book) (ks : List Nat) (m : Nat) : Prop where
  len : ks.length = b.length
  num : firsts ks = List.range m
  ref : ∀ s t, s < b.length → t < b.length → signB ks (mvs b s) = signB ks (mvs b t) → ks.getD s 0 = ks.getD t 0
theorem KInv.first {b : Book} (h : 1 ≤ b.length) : KInv b (List.replicate b.length 0) 1 where
  len := List.length_replicate
  num := by
    have : ∀ n, firsts (List.replicate (n + 1) 0) = [0] := by
      intro n
      induction n with
      | zero => rfl
      | succ n ih =>
        rw [List.replicate_succ', firsts_snoc, ih]
        rfl
    obtain ⟨n, hn⟩ : ∃ n, b.length = n + 1 := ⟨b.length - 1, by omega⟩
    rw [hn, this n]
    rfl
  ref := fun s t hs ht _ => by
    rw [List.getD_eq_getElem?_getD, List.getD_eq_getElem?_getD, List.getElem?_replicate, List.getElem?_replicate, if_pos hs, if_pos ht]
theorem getD_at {ks : List Nat} {s k : Nat} (h : ks[s]? = some k) : ks.getD s 0 = k := by rw [List.getD_eq_getElem?_getD, h]; rfl
theorem KInv.lt {b : Book} {ks : List Nat} {m : Nat} (h : KInv b ks m) {s : Nat} (hs : s < b.length) : ks.getD s 0 < m := by
  have hl : s < ks.length := by rw [h.len]; exact hs
  have e : ks[s]? = some ks[s] := List.getElem?_eq_getElem hl
  rw [getD_at e]
  have : ks[s] ∈ firsts ks := mem_firsts.mpr (List.getElem_mem hl)
  rw [h.num] at this
  exact List.mem_range.mp this
theorem KInv.pairs {b : Book} {ks : List Nat} {m : Nat} (h : KInv b ks m) : ∀ p ∈ (signsB b ks).zip ks, ∀ q ∈ (signsB b ks).zip ks, p.1 = q.1 → p.2 = q.2 := by
  intro p hp q hq e
  obtain ⟨i, hi⟩ := List.mem_iff_getElem?.mp hp
  obtain ⟨j, hj⟩ := List.mem_iff_getElem?.mp hq
  obtain ⟨i1, i2⟩ := List.getElem?_zip_eq_some.mp hi
  obtain ⟨j1, j2⟩ := List.getElem?_zip_eq_some.mp hj
  have li : i < b.length := by have := (List.getElem?_eq_some_iff.mp i1).1; rwa [signsB_len] at this
  have lj : j < b.length := by have := (List.getElem?_eq_some_iff.mp j1).1; rwa [signsB_len] at this
  rw [signsB_at li] at i1
  rw [signsB_at lj] at j1
  have := h.ref i j li lj (by rw [Option.some.inj i1, Option.some.inj j1, e])
  rw [getD_at i2, getD_at j2] at this
  exact this
theorem KInv.zip {b : Book} {ks : List Nat} {m : Nat} (h : KInv b ks m) : ((signsB b ks).zip ks).map (·.1) = signsB b ks ∧ ((signsB b ks).zip ks).map (·.2) = ks := by
  have hl : (signsB b ks).length = ks.length := by rw [signsB_len, h.len]
  exact ⟨List.map_fst_zip (Nat.le_of_eq hl), List.map_snd_zip (Nat.le_of_eq hl.symm)⟩
theorem KInv.ge {b : Book} {ks : List Nat} {m : Nat} (h : KInv b ks m) : m ≤ (firsts (signsB b ks)).length := by
  have := (firsts_two _ h.pairs).1
  rw [h.zip.1, h.zip.2, h.num, List.length_range] at this
  exact this
theorem KInv.same {b : Book} {ks : List Nat} {m : Nat} (h : KInv b ks m) (e : (firsts (signsB b ks)).length = m) : numOf (signsB b ks) = ks := by
  have := (firsts_two _ h.pairs).2
  rw [h.zip.1, h.zip.2, h.num, List.length_range] at this
  rw [this e.symm]
  exact numOf_self h.num
theorem signB_eq {ks : List Nat} : ∀ {x y : State}, signB ks x = signB ks y → ∀ {ls : List Nat}, (∀ p ∈ x, ∀ q ∈ y, ks.getD p.2 0 = ks.getD q.2 0 → ls.getD p.2 0 = ls.getD q.2 0) → signB ls x = signB ls y
  | [], [], _, _, _ => rfl
  | [], _ :: _, e, _, _ => nomatch e
  | _ :: _, [], e, _, _ => nomatch e
  | p :: x, q :: y, e, ls, h => by
    have e : (p.1, ks.getD p.2 0) :: signB ks x = (q.1, ks.getD q.2 0) :: signB ks y := e
    injection e with e1 e2
    injection e1 with e3 e4
    show (p.1, ls.getD p.2 0) :: signB ls x = (q.1, ls.getD q.2 0) :: signB ls y
    rw [e3, h p (by simp) q (by simp) e4, signB_eq e2 fun p hp q hq => h p (by simp [hp]) q (by simp [hq])]
theorem KInv.next {b : Book} {ks : List Nat} {m : Nat} (fb : FormB b) (h : KInv b ks m) : KInv b (numOf (signsB b ks)) (firsts (signsB b ks)).length where
  len := by rw [numOf_len, signsB_len]
  num := numOf_firsts _
  ref := fun s t hs ht e => by
    have eq_of : ∀ {x y : Nat}, x < b.length → y < b.length → (numOf (signsB b ks)).getD x 0 = (numOf (signsB b ks)).getD y 0 → signB ks (mvs b x) = signB ks (mvs b y) := by
      intro x y hx hy e
      have a1 := numOf_at (signsB_at (ks := ks) hx)
      have a2 := numOf_at (signsB_at (ks := ks) hy)
      rw [getD_at a1, getD_at a2] at e
      have g1 := numOf_get (signsB_at (ks := ks) hx)
      have g2 := numOf_get (signsB_at (ks := ks) hy)
      rw [e, g2] at g1
      exact (Option.some.inj g1).symm
    have e2 : signB ks (mvs b s) = signB ks (mvs b t) := signB_eq e fun p hp q hq ez => h.ref _ _ (fb.to hp) (fb.to hq) (eq_of (fb.to hp) (fb.to hq) ez)
    have a1 := numOf_at (signsB_at (ks := ks) hs)
    have a2 := numOf_at (signsB_at (ks := ks) ht)
    rw [getD_at a1, getD_at a2, e2]
/-! ### one book over another: each state has the rows of its state there -/
structure Hom (b c : Book) (f : Nat → Nat) : Prop where
  zero : f 0 = 0
  lt : ∀ s, s < b.length → f s < c.length
  mv : ∀ s, s < b.length → mvs c (f s) = (mvs b s).map fun p => (p.1, f p.2)
theorem Hom.comp {b c d : Book} {f g : Nat → Nat} (fb : FormB b) (h : Hom b c f) (k : Hom c d g) : Hom b d fun s => g (f s) where
  zero := by show g (f 0) = 0; rw [h.zero, k.zero]
  lt := fun s hs => k.lt _ (h.lt s hs)
  mv := fun s hs => by
    rw [k.mv _ (h.lt s hs), h.mv s hs, List.map_map]
    rfl
theorem Hom.rch {b c : Book} {f : Nat → Nat} (fb : FormB b) (h : Hom b c f) {x : Nat} (hx : Rch c x) : ∃ s, s < b.length ∧ f s = x := by
  induction hx with
  | zero => exact ⟨0, fb.one, h.zero⟩
  | @step x p _ hp ih =>
    obtain ⟨s, hs, rfl⟩ := ih
    rw [h.mv s hs] at hp
    obtain ⟨q, hq, rfl⟩ := List.mem_map.mp hp
    exact ⟨q.2, fb.to hq, rfl⟩
theorem Hom.onto {b c : Book} {f : Nat → Nat} (fb : FormB b) (oc : OkB c) (h : Hom b c f) {x : Nat} (hx : x < c.length) : ∃ s, s < b.length ∧ f s = x := h.rch fb (oc.reach x hx)
theorem Hom.down {b c : Book} {f : Nat → Nat} (fb : FormB b) (h : Hom b c f) {s : Nat} (hs : Rch b s) : Rch c (f s) := by
  induction hs with
  | zero => rw [h.zero]; exact .zero
  | @step s p hr hp ih =>
    have hs : s < b.length := by
      by_cases hs : s < b.length
      · exact hs
      · rw [mvs_out (by omega)] at hp; cases hp
    have : (p.1, f p.2) ∈ mvs c (f s) := by
      rw [h.mv s hs]
      exact List.mem_map.mpr ⟨p, hp, rfl⟩
    exact ih.step this
/-- all states of a whole book are met -/
theorem met_all {b : Book} {F : List Nat} (ok : OkB b) (m : Met b F) {s : Nat} (hs : s < b.length) : s ∈ F := by
  have key : ∀ {s : Nat}, Rch b s → s ∈ F := by
    intro s h
    induction h with
    | zero => exact List.mem_of_getElem? m.zero
    | step _ hp ih => exact m.cl _ ih _ hp
  exact key (ok.reach s hs)
theorem ren_hom {b : Book} {F : List Nat} (ok : OkB b) (m : Met b F) : Hom b (rename b F) F.idxOf where
  zero := idx_of m.nd m.zero
  lt := fun s hs => by rw [rename_len]; exact List.idxOf_lt_length_of_mem (met_all ok m hs)
  mv := fun s hs => by
    have hm := met_all ok m hs
    have hl := List.idxOf_lt_length_of_mem hm
    exact rename_at (by rw [List.getElem?_eq_getElem hl]; exact congrArg some (List.getElem_idxOf hl))
/-- the least states of a book -/
structure LeastB (b : Book) (ks : List Nat) (m : Nat) : Prop extends KInv b ks m where
  stop : (firsts (signsB b ks)).length = m
theorem LeastB.form {b : Book} {ks : List Nat} {m : Nat} (fb : FormB b) (h : LeastB b ks m) : FormB (firsts (signsB b ks)) where
  one := firsts_pos (fun e => by
    have := fb.one
    have h2 : b.length = 0 := by rw [← signsB_len (b := b) (ks := ks), e]; rfl
    omega)
  eight := Nat.le_trans (firsts_le _) (by rw [signsB_len]; exact fb.eight)
  st := fun x hx => by
    obtain ⟨s, hs, rfl⟩ := List.mem_map.mp (mem_firsts.mp hx)
    have so := fb.st s hs
    refine ⟨by unfold signB; rw [List.length_map]; exact so.few, ?_, fun p hp => ?_, fun p hp => ?_⟩
    · unfold signB
      rw [List.map_map]
      exact so.rise
    · obtain ⟨q, hq, rfl⟩ := List.mem_map.mp hp
      exact so.msg q hq
    · obtain ⟨q, hq, rfl⟩ := List.mem_map.mp hp
      rw [h.stop]
      exact h.lt (so.to q hq)
theorem LeastB.hom {b : Book} {ks : List Nat} {m : Nat} (fb : FormB b) (h : LeastB b ks m) : Hom b (firsts (signsB b ks)) (fun s => ks.getD s 0) where
  zero := by
    have e := h.same h.stop
    have a := numOf_at (signsB_at (ks := ks) fb.one)
    rw [e] at a
    show ks.getD 0 0 = 0
    rw [getD_at a]
    exact idx_any (firsts_nd _) (firsts_head (signsB_at (ks := ks) fb.one))
  lt := fun s hs => by rw [h.stop]; exact h.lt hs
  mv := fun s hs => by
    have e := h.same h.stop
    have a := numOf_at (signsB_at (ks := ks) hs)
    rw [e] at a
    rw [getD_at a]
    exact mvs_of (numOf_get (signsB_at (ks := ks) hs))
theorem LeastB.ok {b : Book} {ks : List Nat} {m : Nat} (ob : OkB b) (h : LeastB b ks m) : OkB (firsts (signsB b ks)) where
  toFormB := h.form ob.toFormB
  reach := fun x hx => by
    have hm : x ∈ firsts ks := by rw [h.num]; exact List.mem_range.mpr (by rw [← h.stop]; exact hx)
    obtain ⟨s, hs⟩ := List.mem_iff_getElem?.mp (mem_firsts.mp hm)
    have hl : s < b.length := by rw [← h.len]; exact (List.getElem?_eq_some_iff.mp hs).1
    have := (h.hom ob.toFormB).down ob.toFormB (ob.reach s hl)
    rw [getD_at hs] at this
    exact this
end Nv
set_option linter.all false
namespace Nv
/-! ### what stays along a book's way into another one -/
section
variable {b c : Book} {f : Nat → Nat}
theorem Hom.nil (h : Hom b c f) {s : Nat} (hs : s < b.length) : mvs c (f s) = [] ↔ mvs b s = [] := by
  rw [h.mv s hs, List.map_eq_nil_iff]
theorem Hom.deg (h : Hom b c f) {s : Nat} (hs : s < b.length) : (mvs c (f s)).length = (mvs b s).length := by
  rw [h.mv s hs, List.length_map]
theorem Hom.fork (h : Hom b c f) {s : Nat} (hs : s < b.length) : f s ∈ forksM c ↔ s ∈ forksM b := by
  rw [fork_iff, fork_iff, h.deg hs]
  exact ⟨fun z => ⟨hs, z.2⟩, fun z => ⟨h.lt s hs, z.2⟩⟩
theorem Hom.ex (fb : FormB b) (fc : FormB c) (h : Hom b c f) {t : Nat} (ht : t < b.length) : ∀ j, (∀ k ∈ exL b t j, f k ∈ exL c (f t) j) ∧ ∀ y ∈ exL c (f t) j, ∃ k ∈ exL b t j, f k = y
  | 0 => ⟨fun k hk => by rw [List.mem_singleton.mp hk]; exact List.mem_singleton.mpr rfl, fun y hy => ⟨t, List.mem_singleton.mpr rfl, (List.mem_singleton.mp hy).symm⟩⟩
  | j + 1 => by
    obtain ⟨i1, i2⟩ := Hom.ex fb fc h ht j
    refine ⟨fun k hk => ?_, fun y hy => ?_⟩
    · obtain ⟨x, hx, p, hp, e⟩ := (mem_next fb).mp hk
      refine (mem_next fc).mpr ⟨f x, i1 x hx, (p.1, f p.2), ?_, by rw [← e]⟩
      rw [h.mv x (exL_lt ht j x hx)]
      exact List.mem_map.mpr ⟨p, hp, rfl⟩
    · obtain ⟨x, hx, p, hp, e⟩ := (mem_next fc).mp hy
      obtain ⟨z, hz, rfl⟩ := i2 x hx
      rw [h.mv z (exL_lt ht j z hz)] at hp
      obtain ⟨q, hq, rfl⟩ := List.mem_map.mp hp
      exact ⟨q.2, (mem_next fb).mpr ⟨z, hz, q, hq, rfl⟩, e⟩
theorem Hom.led (fb : FormB b) (fc : FormB c) (h : Hom b c f) {t : Nat} (ht : t < b.length) (m : Nat) : (∀ k ∈ ledL b t m, f k ∈ ledL c (f t) m) ∧ ∀ y ∈ ledL c (f t) m, ∃ k ∈ ledL b t m, f k = y := by
  refine ⟨fun k hk => ?_, fun y hy => ?_⟩
  · rw [led_ends fb ht, mem_ends fb ht] at hk
    obtain ⟨j, hj, hk⟩ := hk
    rw [led_ends fc (h.lt t ht), mem_ends fc (h.lt t ht)]
    exact ⟨j, hj, (h.ex fb fc ht j).1 k hk⟩
  · rw [led_ends fc (h.lt t ht), mem_ends fc (h.lt t ht)] at hy
    obtain ⟨j, hj, hy⟩ := hy
    obtain ⟨k, hk, e⟩ := (h.ex fb fc ht j).2 y hy
    exact ⟨k, by rw [led_ends fb ht, mem_ends fb ht]; exact ⟨j, hj, hk⟩, e⟩
theorem Hom.lead (fb : FormB b) (fc : FormB c) (h : Hom b c f) {S T : List Nat} (hST : ∀ s, s < b.length → (s ∈ S ↔ f s ∈ T)) {s : Nat} (hs : s < b.length) (W : Nat) : leadM c W (f s) T = leadM b W s S := by
  unfold leadM
  rw [h.mv s hs, List.filter_map, List.map_map]
  show ((mvs b s).filter _).map (·.1) = _
  congr 1
  refine List.filter_congr fun p hp => ?_
  have hp2 := fb.to hp
  show ((ledL c (f p.2) (W - 1)).any fun k => decide (k ∈ T)) = ((ledL b p.2 (W - 1)).any fun k => decide (k ∈ S))
  rw [Bool.eq_iff_iff, List.any_eq_true, List.any_eq_true]
  constructor
  · rintro ⟨y, hy, e⟩
    obtain ⟨k, hk, rfl⟩ := (h.led fb fc hp2 (W - 1)).2 y hy
    exact ⟨k, hk, decide_eq_true ((hST k (ledL_lt hp2 k hk)).mpr (of_decide_eq_true e))⟩
  · rintro ⟨k, hk, e⟩
    exact ⟨f k, (h.led fb fc hp2 (W - 1)).1 k hk, decide_eq_true ((hST k (ledL_lt hp2 k hk)).mp (of_decide_eq_true e))⟩
theorem Hom.fall (fb : FormB b) (fc : FormB c) (h : Hom b c f) {S T : List Nat} (hST : ∀ s, s < b.length → (s ∈ S ↔ f s ∈ T)) {s : Nat} (hs : s < b.length) (W : Nat) : s ∈ fallM b W S ↔ f s ∈ fallM c W T := by
  unfold fallM
  rw [List.mem_filter, List.mem_filter, hST s hs, h.lead fb fc hST hs W]
theorem Hom.rk (fb : FormB b) (oc : OkB c) (h : Hom b c f) {W : Nat} : ∀ {t : Nat} {S fin : List Nat} {r res : List (Option Int)}, Rk b W t S r res fin → ∀ {T fin' : List Nat} {r' res' : List (Option Int)}, Rk c W t T r' res' fin' →
    (∀ s, s < b.length → (s ∈ S ↔ f s ∈ T)) → (∀ k ∈ S, k < b.length) → (∀ k ∈ T, k < c.length) → r.length = b.length → r'.length = c.length → (∀ s, s < b.length → r[s]? = r'[f s]?) → ∀ s, s < b.length → res[s]? = res'[f s]? := by
  have fc := oc.toFormB
  intro t S fin r res k
  have emp : ∀ {S T : List Nat}, (∀ s, s < b.length → (s ∈ S ↔ f s ∈ T)) → (∀ k ∈ S, k < b.length) → (∀ k ∈ T, k < c.length) → (S = [] ↔ T = []) := by
    intro S T hST hS hT
    constructor
    · intro e
      refine List.eq_nil_iff_forall_not_mem.mpr fun y hy => ?_
      obtain ⟨s, hs, rfl⟩ := h.onto fb oc (hT y hy)
      have := (hST s hs).mpr hy
      rw [e] at this
      cases this
    · intro e
      refine List.eq_nil_iff_forall_not_mem.mpr fun y hy => ?_
      have := (hST y (hS y hy)).mp hy
      rw [e] at this
      cases this
  have put : ∀ {S T : List Nat} {r r' : List (Option Int)} {x : Int}, (∀ s, s < b.length → (s ∈ S ↔ f s ∈ T)) → r.length = b.length → r'.length = c.length → (∀ s, s < b.length → r[s]? = r'[f s]?) → ∀ s, s < b.length → (setAll r S x)[s]? = (setAll r' T x)[f s]? := by
    intro S T r r' x hST l1 l2 hr s hs
    have hfs := h.lt s hs
    rw [setAll_get, setAll_get]
    by_cases e : s ∈ S
    · rw [if_pos ⟨e, by omega⟩, if_pos ⟨(hST s hs).mp e, by omega⟩]
    · rw [if_neg (fun z => e z.1), if_neg (fun z => e ((hST s hs).mpr z.1))]
      exact hr s hs
  induction k with
  | @stop t S r e =>
    intro T fin' r' res' k' hST hS hT l1 l2 hr
    have hf : ∀ s, s < b.length → (s ∈ fallM b W S ↔ f s ∈ fallM c W T) := fun s hs => h.fall fb fc hST hs W
    cases k' with
    | stop _ => exact put hST l1 l2 hr
    | go e' _ =>
      exfalso
      exact e' ((emp (S := fallM b W S) (T := fallM c W T) hf (fun k hk => hS k (List.mem_filter.mp hk).1) (fun k hk => hT k (List.mem_filter.mp hk).1)).mp e)
  | @go t S fin r res e _ ih =>
    intro T fin' r' res' k' hST hS hT l1 l2 hr
    have hf : ∀ s, s < b.length → (s ∈ fallM b W S ↔ f s ∈ fallM c W T) := fun s hs => h.fall fb fc hST hs W
    cases k' with
    | stop e' =>
      exfalso
      exact e ((emp (S := fallM b W S) (T := fallM c W T) hf (fun k hk => hS k (List.mem_filter.mp hk).1) (fun k hk => hT k (List.mem_filter.mp hk).1)).mpr e')
    | go _ k2 =>
      refine ih k2 (fun s hs => ?_) (fun k hk => hS k (List.mem_filter.mp hk).1) (fun k hk => hT k (List.mem_filter.mp hk).1) (by rw [setAll_len]; exact l1) (by rw [setAll_len]; exact l2) (put hf l1 l2 hr)
      unfold restM
      rw [List.mem_filter, List.mem_filter, hST s hs, decide_eq_decide.mpr (hf s hs)]
/-- ranks go along -/
theorem Hom.ranks (fb : FormB b) (oc : OkB c) (h : Hom b c f) {W : Nat} {res res' : List (Option Int)} {fin fin' : List Nat} (hL : LastM b W res fin) (hL' : LastM c W res' fin') : ∀ s, s < b.length → res[s]? = res'[f s]? := by
  refine h.rk fb oc hL hL' (fun s hs => (h.fork hs).symm) (fun k hk => forks_lt hk) (fun k hk => forks_lt hk) List.length_replicate List.length_replicate fun s hs => ?_
  rw [List.getElem?_replicate, List.getElem?_replicate, if_pos hs, if_pos (h.lt s hs)]
theorem Hom.lastNil (fb : FormB b) (oc : OkB c) (h : Hom b c f) {W : Nat} {res res' : List (Option Int)} {fin fin' : List Nat} (hL : LastM b W res fin) (hL' : LastM c W res' fin') : lastL b res = [] ↔ lastL c res' = [] := by
  have hr := h.ranks fb oc hL hL'
  unfold lastL
  constructor
  · intro e
    refine List.eq_nil_iff_forall_not_mem.mpr fun y hy => ?_
    obtain ⟨hy1, hy2⟩ := mem_filt.mp hy
    obtain ⟨s, hs, rfl⟩ := h.onto fb oc hy1
    have : s ∈ (List.range b.length).filter fun s => decide (res[s]? = some (some (-1))) := mem_filt.mpr ⟨hs, by rw [hr s hs]; exact hy2⟩
    rw [e] at this
    cases this
  · intro e
    refine List.eq_nil_iff_forall_not_mem.mpr fun s hs => ?_
    obtain ⟨h1, h2⟩ := mem_filt.mp hs
    have : f s ∈ (List.range c.length).filter fun s => decide (res'[s]? = some (some (-1))) := mem_filt.mpr ⟨h.lt s h1, by rw [← hr s h1]; exact h2⟩
    rw [e] at this
    cases this
theorem Hom.forksNil (fb : FormB b) (oc : OkB c) (h : Hom b c f) : forksM b = [] ↔ forksM c = [] := by
  constructor
  · intro e
    refine List.eq_nil_iff_forall_not_mem.mpr fun y hy => ?_
    obtain ⟨s, hs, rfl⟩ := h.onto fb oc (forks_lt hy)
    have := (h.fork hs).mp hy
    rw [e] at this
    cases this
  · intro e
    refine List.eq_nil_iff_forall_not_mem.mpr fun s hs => ?_
    have := (h.fork (forks_lt hs)).mpr hs
    rw [e] at this
    cases this
theorem ite_iff {p q : Prop} [Decidable p] [Decidable q] {α : Type} {x y x' y' : α} (h : p ↔ q) (hx : x = x') (hy : y = y') : (if p then x else y) = if q then x' else y' := by
  by_cases e : p
  · rw [if_pos e, if_pos (h.mp e), hx]
  · rw [if_neg e, if_neg (fun z => e (h.mpr z)), hy]
theorem Hom.least (fb : FormB b) (oc : OkB c) (h : Hom b c f) {W : Nat} {res res' : List (Option Int)} {fin fin' : List Nat} (hL : LastM b W res fin) (hL' : LastM c W res' fin') : leastM b res = leastM c res' := by
  have h0 : mvs b 0 = [] ↔ mvs c 0 = [] := by
    have := h.nil fb.one
    rw [h.zero] at this
    exact this.symm
  exact ite_iff h0 rfl (ite_iff (h.forksNil fb oc) rfl (ite_iff (h.lastNil fb oc hL hL') rfl rfl))
theorem Hom.lw (fb : FormB b) (oc : OkB c) (h : Hom b c f) (W : Nat) : lwF b W = lwF c W := by
  obtain ⟨res, fin, hL⟩ := last_ex b W
  obtain ⟨res', fin', hL'⟩ := last_ex c W
  rw [← lwF_eq hL, ← lwF_eq hL']
  exact h.least fb oc hL hL'
theorem Hom.nine (fb : FormB b) (oc : OkB c) (h : Hom b c f) : nineL b = nineL c := List.map_congr_left fun i _ => h.lw fb oc (i + 1)
theorem from_lw {b : Book} {W V : Nat} (h : FromW b (some W)) : 1 ≤ W ∧ W ≤ 9 ∧ lwF b W = 3 ∧ (1 ≤ V → V < W → lwF b V ≠ 3) := by
  obtain ⟨h1, h2, ⟨res, fin, hL, e⟩, h4⟩ := h
  refine ⟨h1, h2, by rw [← lwF_eq hL]; exact e, fun a b' e => ?_⟩
  obtain ⟨res', fin', hL'⟩ := last_ex b V
  exact h4 V a b' res' fin' hL' (by rw [lwF_eq hL']; exact e)
theorem Hom.from_ (fb : FormB b) (oc : OkB c) (h : Hom b c f) {o o' : Option Nat} (ho : FromW b o) (ho' : FromW c o') : o = o' := by
  have no : ∀ {b : Book} {V : Nat}, FromW b none → 1 ≤ V → V ≤ 9 → lwF b V ≠ 3 := by
    intro b V hn a1 a2 e
    obtain ⟨res', fin', hL'⟩ := last_ex b V
    exact hn V a1 a2 res' fin' hL' (by rw [lwF_eq hL']; exact e)
  cases o with
  | none =>
    cases o' with
    | none => rfl
    | some W =>
      obtain ⟨a1, a2, a3, _⟩ := from_lw (V := 0) ho'
      exact absurd ((h.lw fb oc W).trans a3) (no ho a1 a2)
  | some W =>
    obtain ⟨a1, a2, a3, _⟩ := from_lw (V := 0) ho
    cases o' with
    | none => exact absurd ((h.lw fb oc W).symm.trans a3) (no ho' a1 a2)
    | some V =>
      obtain ⟨b1, b2, b3, _⟩ := from_lw (V := 0) ho'
      have n1 := (from_lw (V := V) ho).2.2.2
      have n2 := (from_lw (V := W) ho').2.2.2
      have e1 : ¬ V < W := fun z => n1 b1 z ((h.lw fb oc V).trans b3)
      have e2 : ¬ W < V := fun z => n2 a1 z ((h.lw fb oc W).symm.trans a3)
      exact congrArg some (by omega)
/-! ### rings, and rows that lead to them -/
theorem Hom.rt (fb : FormB b) (h : Hom b c f) {x y : Nat} (hx : x < b.length) (r : Rt b x y) : y < b.length ∧ Rt c (f x) (f y) := by
  induction r with
  | refl => exact ⟨hx, .refl _⟩
  | @step k p _ hp ih =>
    refine ⟨fb.to hp, ih.2.step (p := (p.1, f p.2)) ?_⟩
    rw [h.mv k ih.1]
    exact List.mem_map.mpr ⟨p, hp, rfl⟩
theorem Hom.rtUp (fb : FormB b) (h : Hom b c f) {t y x : Nat} (ht : t < b.length) (e : f t = y) (r : Rt c y x) : ∃ k, k < b.length ∧ Rt b t k ∧ f k = x := by
  induction r with
  | refl => exact ⟨t, ht, .refl _, e⟩
  | @step k p _ hp ih =>
    obtain ⟨z, hz, hr, rfl⟩ := ih
    rw [h.mv z hz] at hp
    obtain ⟨q, hq, rfl⟩ := List.mem_map.mp hp
    exact ⟨q.2, fb.to hq, hr.step hq, rfl⟩
theorem rt_first {b : Book} {x z : Nat} (r : Rt b x z) : x = z ∨ ∃ p ∈ mvs b x, Rt b p.2 z := by
  induction r with
  | refl => exact .inl rfl
  | @step k p hr hp ih =>
    rcases ih with rfl | ⟨q, hq, h⟩
    · exact .inr ⟨p, hp, .refl _⟩
    · exact .inr ⟨q, hq, h.step hp⟩
theorem Hom.ringDown (fb : FormB b) (fc : FormB c) (h : Hom b c f) {s : Nat} (hs : s < b.length) (r : ringB b s = true) : ringB c (f s) = true := by
  obtain ⟨p, hp, hr⟩ := (ring_iff fb).mp r
  refine (ring_iff fc).mpr ⟨(p.1, f p.2), ?_, (h.rt fb (fb.to hp) hr).2⟩
  rw [h.mv s hs]
  exact List.mem_map.mpr ⟨p, hp, rfl⟩
theorem Hom.ringUp (fb : FormB b) (oc : OkB c) (h : Hom b c f) {x : Nat} (hx : x < c.length) (r : ringB c x = true) : ∃ s, s < b.length ∧ f s = x ∧ ringB b s = true := by
  have fc := oc.toFormB
  obtain ⟨p, hp, hr⟩ := (ring_iff fc).mp r
  obtain ⟨s0, hs0, e0⟩ := h.onto fb oc hx
  have go : ∀ s, s < b.length → f s = x → ∃ q ∈ mvs b s, ∃ k, k < b.length ∧ Rt b q.2 k ∧ f k = x := by
    intro s hs e
    rw [← e, h.mv s hs] at hp
    obtain ⟨q, hq, rfl⟩ := List.mem_map.mp hp
    obtain ⟨k, hk, hrk, ek⟩ := h.rtUp fb (fb.to hq) rfl hr
    exact ⟨q, hq, k, hk, hrk, ek⟩
  have mS : ∀ k, k ∈ (List.range b.length).filter (fun k => decide (f k = x)) ↔ k < b.length ∧ f k = x := fun k => by rw [mem_filt, decide_eq_true_eq]
  obtain ⟨s, hsS, all⟩ := bottom fb (S := (List.range b.length).filter fun k => decide (f k = x)) (fun k hk => ((mS k).mp hk).1) _ s0 ((mS s0).mpr ⟨hs0, e0⟩) (Nat.le_refl _)
  obtain ⟨hs, es⟩ := (mS s).mp hsS
  obtain ⟨q, hq, k, hk, hrk, ek⟩ := go s hs es
  have back := all k ((mS k).mpr ⟨hk, ek⟩) ((Rt.one hq).trans hrk)
  exact ⟨s, hs, es, (ring_iff fb).mpr ⟨q, hq, hrk.trans back⟩⟩
theorem mem_ringForks {b : Book} {s : Nat} : s ∈ ringForksM b ↔ s ∈ forksM b ∧ ringB b s = true := by
  unfold ringForksM
  rw [List.mem_filter, decide_eq_true_eq]
  constructor
  · rintro ⟨h1, h2⟩
    refine ⟨h1, ?_⟩
    rw [← mem_rings (forks_lt h1)]
    exact decide_eq_true h2
  · rintro ⟨h1, h2⟩
    refine ⟨h1, ?_⟩
    rw [← mem_rings (forks_lt h1)] at h2
    exact of_decide_eq_true h2
theorem Hom.ringForksNil (fb : FormB b) (oc : OkB c) (h : Hom b c f) : ringForksM b = [] ↔ ringForksM c = [] := by
  constructor
  · intro e
    refine List.eq_nil_iff_forall_not_mem.mpr fun y hy => ?_
    obtain ⟨h1, h2⟩ := mem_ringForks.mp hy
    obtain ⟨s, hs, rfl, hr⟩ := h.ringUp fb oc (forks_lt h1) h2
    have : s ∈ ringForksM b := mem_ringForks.mpr ⟨(h.fork hs).mp h1, hr⟩
    rw [e] at this
    cases this
  · intro e
    refine List.eq_nil_iff_forall_not_mem.mpr fun s hs => ?_
    obtain ⟨h1, h2⟩ := mem_ringForks.mp hs
    have : f s ∈ ringForksM c := mem_ringForks.mpr ⟨(h.fork (forks_lt h1)).mpr h1, h.ringDown fb oc.toFormB (forks_lt h1) h2⟩
    rw [e] at this
    cases this
theorem c_nine {b : Book} (fb : FormB b) {s : Nat} (hs : s < b.length) : cM b 9 s = if ringB b s = true then 1 else ((mvs b s).map fun p => cM b 9 p.2).sum := by
  have h8 := fb.eight
  have hn := nodup_le (nonR_nd b s) fun k hk => ((mem_nonR fb hs).mp hk).1
  have e := c_stab fb 8 s hs (by omega) 10 (by omega)
  rw [← c_turn b 9 s]
  exact e.symm
theorem ring_next {b : Book} (fb : FormB b) {s : Nat} {p : Nat × Nat} (e : mvs b s = [p]) (r : ringB b s = true) : ringB b p.2 = true := by
  obtain ⟨q, hq, hr⟩ := (ring_iff fb).mp r
  rw [e] at hq
  obtain rfl := List.mem_singleton.mp hq
  have hp : q ∈ mvs b s := by rw [e]; exact List.mem_singleton.mpr rfl
  rcases rt_first (hr.step hp) with _ | ⟨x, hx, h⟩
  · rcases rt_first hr with z | ⟨x, hx, h⟩
    · refine (ring_iff fb).mpr ⟨q, by rw [z]; exact hp, .refl _⟩
    · exact (ring_iff fb).mpr ⟨x, hx, h.step hp⟩
  · exact (ring_iff fb).mpr ⟨x, hx, h⟩
theorem Hom.counts (fb : FormB b) (oc : OkB c) (h : Hom b c f) (no : ringForksM c = []) : ∀ (n s : Nat), s < b.length → (nonR b s).length ≤ n → cM b 9 s = cM c 9 (f s) := by
  have fc := oc.toFormB
  intro n
  induction n with
  | zero =>
    intro s hs hN
    have hr : ringB b s = true := by
      cases h : ringB b s with
      | true => rfl
      | false =>
        have : s ∈ nonR b s := (mem_nonR fb hs).mpr ⟨hs, h, .refl _⟩
        have := List.length_pos_of_mem this
        omega
    rw [c_nine fb hs, c_nine fc (h.lt s hs), if_pos hr, if_pos (h.ringDown fb fc hs hr)]
  | succ n ih =>
    intro s hs hN
    rw [c_nine fb hs, c_nine fc (h.lt s hs)]
    cases hr : ringB b s with
    | true => rw [if_pos rfl, if_pos (h.ringDown fb fc hs hr)]
    | false =>
      rw [if_neg (by simp)]
      have step : ∀ p ∈ mvs b s, cM b 9 p.2 = cM c 9 (f p.2) := fun p hp => by
        have := nonR_lt fb hs hr hp
        exact ih p.2 (fb.to hp) (by omega)
      have e1 : (mvs b s).map (fun p => cM b 9 p.2) = (mvs b s).map fun p => cM c 9 (f p.2) := List.map_congr_left step
      cases hc : ringB c (f s) with
      | false =>
        rw [if_neg (by simp), h.mv s hs, List.map_map, e1]
        rfl
      | true =>
        rw [if_pos rfl]
        have nf : f s ∉ forksM c := fun z => by
          have : f s ∈ ringForksM c := mem_ringForks.mpr ⟨z, hc⟩
          rw [no] at this
          cases this
        have l1 : ¬ 1 < (mvs b s).length := fun z => nf (fork_iff.mpr ⟨h.lt s hs, by rw [h.deg hs]; exact z⟩)
        obtain ⟨q, hq, _⟩ := (ring_iff fc).mp hc
        have l2 : 0 < (mvs b s).length := by rw [← h.deg hs]; exact List.length_pos_of_mem hq
        obtain ⟨p, ep⟩ : ∃ p, mvs b s = [p] := List.length_eq_one_iff.mp (by omega)
        have ec : mvs c (f s) = [(p.1, f p.2)] := by rw [h.mv s hs, ep]; rfl
        have hr2 : ringB c (f p.2) = true := ring_next fc ec hc
        have hp : p ∈ mvs b s := by rw [ep]; exact List.mem_singleton.mpr rfl
        rw [ep]
        show cM b 9 p.2 + 0 = 1
        rw [step p hp, c_nine fc (h.lt p.2 (fb.to hp)), if_pos hr2]
theorem Hom.chain (fb : FormB b) (h : Hom b c f) {s j g : Nat} (hs : s < b.length) (k : Chain b s j g) : Chain c (f s) j (f g) := by
  induction k with
  | zero => exact .zero
  | @step s j g p e _ ih =>
    have hp : p ∈ mvs b s := by rw [e]; exact List.mem_singleton.mpr rfl
    refine .step (p := (p.1, f p.2)) ?_ (ih (fb.to hp))
    rw [h.mv s hs, e]
    rfl
theorem Hom.free (ob : OkB b) (oc : OkB c) (h : Hom b c f) (nf : forksM b ≠ []) : freeM b = freeM c := by
  have fb := ob.toFormB
  unfold freeM
  by_cases e : ringForksM c = []
  · have cl : countL b = countL c := by
      obtain ⟨j, hj, hF, hC⟩ := chain_first ob nf
      have lt := forks_lt hF
      have hC' := h.chain fb fb.one hC
      rw [h.zero] at hC'
      have eF : firstF c = f (firstF b) := chain_walk hC' ((h.fork lt).mpr hF) 8 (by omega)
      unfold countL
      rw [eF, h.mv _ lt, List.map_map]
      refine List.map_congr_left fun p hp => ?_
      exact h.counts fb oc e _ p.2 (fb.to hp) (Nat.le_refl _)
    rw [cl]
    exact ite_iff (h.ringForksNil fb oc) rfl rfl
  · rw [if_neg e, if_neg (fun z => e ((h.ringForksNil fb oc).mp z))]
theorem Hom.leastN (ob : OkB b) (oc : OkB c) (h : Hom b c f) : leastN b = leastN c := by
  have fb := ob.toFormB
  have h0 : mvs b 0 = [] ↔ mvs c 0 = [] := by
    have := h.nil fb.one
    rw [h.zero] at this
    exact this.symm
  unfold Nv.leastN
  refine ite_iff h0 rfl ?_
  by_cases e : forksM b = []
  · rw [if_pos e, if_pos ((h.forksNil fb oc).mp e)]
  · rw [if_neg e, if_neg (fun z => e ((h.forksNil fb oc).mpr z))]
    exact h.free ob oc e
end
end Nv
set_option Elab.async false
set_option linter.all false
set_option maxRecDepth 100000
/-! a dict's comprehension over a walk; dicts from numbers to numbers -/
namespace Nv
open PySem PySem.Spec PyProof.Rows L2
theorem dc_it {J : It} {n : Nat} {G : Hp → Prop} {Y : Nat → Hp → V → Hp → Prop} (w : Walk J n G Y) {g : TG} {tt : TT} {tk tv : TE} {vs : List Nat} {σ : L2.St} {H1 : Hp} {D : Addr} {Qd : Hp → Prop} (Pv : Nat → Hp → Prop) (h0 : Pv 0 (upd H1 D (.dK []))) (hG : ∀ i H, i ≤ n → Pv i H → G H)
    (hs : ∀ i x H H', i < n → Pv i H → Y i H x H' → g x (wipe σ vs) H' fun σ2 H2 => wipe σ2 vs = wipe σ vs ∧ tt σ2 H2 fun b H3 =>
      if b = true then tk σ2 H3 fun y H4 => tv σ2 H4 fun z H5 => ∃ kvs k, y = kV k ∧ H5 D = some (.dK kvs) ∧ kvs.length < sizeLine ∧ Pv (i + 1) (upd H5 D (.dK (putK kvs k z))) else Pv (i + 1) H3) (hd : ∀ H, Pv n H → Qd H) :
    ∃ W : Nat → Nat → Hp → Prop, (∃ m, W 0 m (upd H1 D (.dK []))) ∧ ∀ i m H, W i m H →
      (J.stop i H ∧ Qd H) ∨ (J.go i H ∧ ∃ Nx : Hp → Prop, (∀ H', Nx H' → ∃ m', m' < m ∧ W (i + 1) m' H') ∧ ∀ x H', J.yld i H x H' → g x (wipe σ vs) H' fun σ2 H2 => wipe σ2 vs = wipe σ vs ∧ tt σ2 H2 fun b H3 =>
        if b = true then tk σ2 H3 fun y H4 => tv σ2 H4 fun z H5 => ∃ kvs k, y = kV k ∧ H5 D = some (.dK kvs) ∧ kvs.length < sizeLine ∧ Nx (upd H5 D (.dK (putK kvs k z))) else Nx H3) := by
  refine ⟨fun i m H => m = n - i ∧ i ≤ n ∧ Pv i H, ⟨n, by simp, Nat.zero_le _, h0⟩, ?_⟩
  rintro i m H ⟨rfl, hi, p⟩
  have q := hG i H hi p
  by_cases hlt : i < n
  · refine .inr ⟨w.goes i H hlt q, Pv (i + 1), fun H' p' => ⟨n - (i + 1), by omega, rfl, hlt, p'⟩, fun x H' y => hs i x H H' hlt p (w.yields i H x H' hlt q y)⟩
  · have e : i = n := by omega
    subst e
    exact .inl ⟨w.stops H q, hd H p⟩
/-- the dict that gives each state of F its place there -/
abbrev placesK (F : List Nat) : List (Key × V) := F.zipIdx.map fun p => (kN p.1, nV p.2)
theorem placesK_snoc {F : List Nat} {s : Nat} : placesK (F ++ [s]) = placesK F ++ [(kN s, nV F.length)] := by
  unfold placesK
  rw [List.zipIdx_append, List.map_append]
  simp
theorem placesK_keys {F : List Nat} : (placesK F).map (·.1) = F.map kN := by
  unfold placesK
  rw [List.map_map]
  have : (F.zipIdx.map ((fun x => x.1) ∘ fun p : Nat × Nat => (kN p.1, nV p.2))) = (F.zipIdx.map (·.1)).map kN := by rw [List.map_map]; rfl
  rw [this, List.zipIdx_map_fst]
theorem placesK_len {F : List Nat} : (placesK F).length = F.length := by simp [placesK]
theorem kN_injD {a b : Nat} (h : kN a = kN b) : a = b := by
  have := Sum.inl.inj h
  omega
/-- a new key goes to the end -/
theorem placesK_put {F : List Nat} {s : Nat} (h : s ∉ F) : putK (placesK F) (kN s) (nV F.length) = placesK (F ++ [s]) := by
  rw [placesK_snoc]
  have hf : valV (placesK F) (kN s) = none := by
    have := valV_key (placesK_keys (F := F)) s
    rw [decide_eq_false h] at this
    cases e : valV (placesK F) (kN s) with
    | none => rfl
    | some z => rw [e] at this; cases this
  exact putK_new _ hf
theorem placesK_val {F : List Nat} (nd : F.Nodup) {s : Nat} (h : s ∈ F) : valV (placesK F) (kN s) = some (nV (F.idxOf s)) := by
  have hs := valV_key (placesK_keys (F := F)) s
  rw [decide_eq_true h] at hs
  obtain ⟨v, hv⟩ := Option.isSome_iff_exists.mp hs
  have hm := valV_mem hv
  obtain ⟨p, hp, e⟩ := List.mem_map.mp hm
  have e1 : kN p.1 = kN s := congrArg Prod.fst e
  have e2 : nV p.2 = v := congrArg Prod.snd e
  have e3 := kN_injD e1
  obtain ⟨i, hi, hie⟩ := List.mem_iff_getElem.mp hp
  rw [List.getElem_zipIdx] at hie
  have hi' : i < F.length := by simpa using hi
  have a1 : F[i] = p.1 := congrArg Prod.fst hie
  have a2 : 0 + i = p.2 := congrArg Prod.snd hie
  have : F.idxOf s = i := by
    rw [← e3, ← a1]
    exact List.Nodup.idxOf_getElem nd i hi'
  rw [hv, ← e2, this, ← a2, Nat.zero_add]
end Nv
set_option Elab.async false
set_option linter.all false
set_option maxRecDepth 100000
namespace Nv
open PySem PySem.Spec PyProof.Rows L2
/-! ### dicts whose keys are tuples of numbers and of such tuples -/
mutual
/-- a tracked value is the key -/
inductive NkV (K : PySem.W.Frag) (H : Hp) : NestedKey → V → Prop
  | num (i : Int) : NkV K H (.num i) (.int i)
  | tup {a : Addr} {xs : List V} {ks : List NestedKey} : SqT K H a xs → NkA K H ks xs → NkV K H (.tup ks) (.ref a)
inductive NkA (K : PySem.W.Frag) (H : Hp) : List NestedKey → List V → Prop
  | nil : NkA K H [] []
  | cons {k : NestedKey} {v : V} {ks : List NestedKey} {vs : List V} : NkV K H k v → NkA K H ks vs → NkA K H (k :: ks) (v :: vs)
end
mutual
theorem nk_is {X : Cx} {pins : List (Addr × Obj)} {σ : L2.St} {H : Hp} {s : Shared} (I : Inv X pins σ H s) : ∀ (k : NestedKey) (v : V) (u : Value), NkV X.K H k v → RelV v u → NestedIs s.heap k u
  | .num i, _, _, h, r => by
    cases h
    obtain ⟨t, rfl⟩ := (show ∃ t, _ = Value.int i t from r)
    exact .int i t
  | .tup ks, _, _, h, r => by
    cases h with
    | @tup a xs _ hq ha =>
      obtain rfl : _ = Value.ref a := r
      obtain ⟨its, rv, ⟨o, h1, h2, n, h3⟩, _⟩ := I.tuple hq
      exact .tup h1 h2 h3 (by simpa using nk_all I ks xs its ha rv)
  | .none, _, _, h, _ => by cases h
  | .text _, _, _, h, _ => by cases h
theorem nk_all {X : Cx} {pins : List (Addr × Obj)} {σ : L2.St} {H : Hp} {s : Shared} (I : Inv X pins σ H s) : ∀ (ks : List NestedKey) (vs : List V) (us : List Value), NkA X.K H ks vs → Vals vs us → NestedAll s.heap ks us
  | [], _, _, h, r => by
    cases h
    cases r
    exact .nil
  | k :: ks, _, _, h, r => by
    cases h with
    | cons h1 h2 =>
      cases r with
      | cons r1 r2 => exact .cons (nk_is I k _ _ h1 r1) (nk_all I ks _ _ h2 r2)
end
/-- an entry: the key, the tuple that stands for it, the value -/
abbrev Ent := NestedKey × Addr × V
def DnP (w : World) (a : Addr) (kvs : List Ent) (h : Heap) : Prop := kvs.length ≤ sizeLine ∧ (a == sysModules) = false ∧
  ∃ xs : List (NestedKey × Addr × Value), Paired (fun p q => p.1 = q.1 ∧ p.2.1 = q.2.1 ∧ RelV p.2.2 q.2.2) kvs xs ∧
    ∃ o es ep, h.get? a = some o ∧ o.ExactDict ∧ o.data = .dict es ep ∧ es.toList = (xs.map fun x => (⟨x.1.hash w, .ref x.2.1, x.2.2⟩ : DictEntry)) ∧ (xs.map (·.1)).Nodup
abbrev dnO (w : World) (a : Addr) (kvs : List Ent) : HO := .ext (DnP w a kvs)
/-- the keys are there -/
def KeysIn (K : PySem.W.Frag) (H : Hp) (kvs : List Ent) : Prop := ∀ e ∈ kvs, NkV K H e.1 (.ref e.2.1) ∧ e.1.depth ≤ 8
def valN (kvs : List Ent) (k : NestedKey) : Option V := (kvs.find? fun e => decide (e.1 = k)).map (·.2.2)
theorem dn_val {kvs : List Ent} {xs : List (NestedKey × Addr × Value)} (r : Paired (fun (p : Ent) (q : NestedKey × Addr × Value) => p.1 = q.1 ∧ p.2.1 = q.2.1 ∧ RelV p.2.2 q.2.2) kvs xs) (k : NestedKey) : RelO (valN kvs k) ((atKey xs k).map (·.2)) := by
  induction r with
  | nil => exact True.intro
  | @cons p q ps qs h t ih =>
    obtain ⟨h1, _, h2⟩ := h
    by_cases e : p.1 = k
    · have e' : q.1 = k := h1.symm.trans e
      have b : atKey (q :: qs) k = some q.2 := by simp [atKey, List.find?_cons, e']
      have c : valN (p :: ps) k = some p.2.2 := by simp [valN, List.find?_cons, e]
      rw [c, b]; exact h2
    · have e' : ¬ q.1 = k := fun z => e (h1.trans z)
      have b : atKey (q :: qs) k = atKey qs k := by simp [atKey, List.find?_cons, e']
      have c : valN (p :: ps) k = valN ps k := by simp [valN, List.find?_cons, e]
      rw [c, b]; exact ih
theorem dn_keys {kvs : List Ent} {xs : List (NestedKey × Addr × Value)} (r : Paired (fun (p : Ent) (q : NestedKey × Addr × Value) => p.1 = q.1 ∧ p.2.1 = q.2.1 ∧ RelV p.2.2 q.2.2) kvs xs) : xs.map (·.1) = kvs.map (·.1) ∧ xs.map (·.2.1) = kvs.map (·.2.1) := by
  induction r with
  | nil => exact ⟨rfl, rfl⟩
  | @cons p q ps qs h t ih =>
    obtain ⟨h1, h2, _⟩ := h
    exact ⟨by rw [List.map_cons, List.map_cons, ih.1, h1], by rw [List.map_cons, List.map_cons, ih.2, h2]⟩
theorem dn_snoc {kvs : List Ent} {xs : List (NestedKey × Addr × Value)} {k : NestedKey} {b : Addr} {v : V} {u : Value} (r : Paired (fun (p : Ent) (q : NestedKey × Addr × Value) => p.1 = q.1 ∧ p.2.1 = q.2.1 ∧ RelV p.2.2 q.2.2) kvs xs) (h : RelV v u) :
    Paired (fun (p : Ent) (q : NestedKey × Addr × Value) => p.1 = q.1 ∧ p.2.1 = q.2.1 ∧ RelV p.2.2 q.2.2) (kvs ++ [(k, b, v)]) (xs ++ [(k, b, u)]) := by
  induction r with
  | nil => exact .cons ⟨rfl, rfl, h⟩ .nil
  | cons h t ih => exact .cons h ih
theorem nk_ref {K : PySem.W.Frag} {H : Hp} {k : NestedKey} {b : Addr} (h : NkV K H k (.ref b)) : ∃ ks, k = .tup ks := by
  cases h with
  | tup _ _ => exact ⟨_, rfl⟩
theorem hn_of {A : Around} {k : Nat} (hr : Room k A) : A.units + 9 < cLine := Nat.lt_of_le_of_lt (Nat.add_le_add_left (by decide : 9 ≤ 64) _) hr.units
section
variable {X : Cx} {pins : List (Addr × Obj)} {σ : L2.St} {H : Hp} {s : Shared} {a b : Addr} {kvs : List Ent} {k : NestedKey} {v : V}
theorem dn_of (I : Inv X pins σ H s) (e : H a = some (dnO X.w a kvs)) (ks : KeysIn X.K H kvs) : kvs.length ≤ sizeLine ∧ (a == sysModules) = false ∧
    ∃ xs, Paired (fun (p : Ent) (q : NestedKey × Addr × Value) => p.1 = q.1 ∧ p.2.1 = q.2.1 ∧ RelV p.2.2 q.2.2) kvs xs ∧ s.heap.DictOfH (nestedKind X.prog X.w) a xs := by
  obtain ⟨⟨z, y, xs, r, o, es, ep, h1, h2, h3, h4, h5⟩, _, _⟩ := (show ObjOk X.prog X.w H s.heap a (dnO X.w a kvs) from I.hok a _ e)
  refine ⟨z, y, xs, r, o, es, ep, h1, h2, h3, h4, fun x hx => ?_, h5⟩
  have all : ∀ {l : List Ent} {m : List (NestedKey × Addr × Value)}, Paired (fun (p : Ent) (q : NestedKey × Addr × Value) => p.1 = q.1 ∧ p.2.1 = q.2.1 ∧ RelV p.2.2 q.2.2) l m → KeysIn X.K H l → ∀ x ∈ m, (nestedKind X.prog X.w).is s.heap x.1 x.2.1 := by
    intro l m q
    induction q with
    | nil => intro _ x hx; exact nomatch hx
    | @cons p q ps qs hq t ih =>
      intro ki x hx
      rcases List.mem_cons.mp hx with e | hx
      · subst e
        obtain ⟨g1, g2⟩ := ki p (List.mem_cons_self ..)
        rw [hq.1, hq.2.1] at g1
        rw [hq.1] at g2
        exact ⟨nk_is I _ _ _ g1 rfl, g2⟩
      · exact ih (fun e he => ki e (List.mem_cons_of_mem _ he)) x hx
  exact all r ks x hx
theorem nk_kind (I : Inv X pins σ H s) (h : NkV X.K H k (.ref b)) (d : k.depth ≤ 8) : (nestedKind X.prog X.w).is s.heap k b := ⟨nk_is I _ _ _ h rfl, d⟩
end
/-- what the dict at a holds at the key y -/
def DnGet (K : PySem.W.Frag) (w : World) (H : Hp) (a : Addr) (y : V) (r : Option V) : Prop := ∃ kvs k b, H a = some (dnO w a kvs) ∧ KeysIn K H kvs ∧ y = .ref b ∧ NkV K H k y ∧ k.depth ≤ 8 ∧ r = valN kvs k
/-- a[y] = v for a key that is not there -/
def DnPut (K : PySem.W.Frag) (w : World) (H : Hp) (a : Addr) (y v : V) (H' : Hp) : Prop := ∃ kvs k b, H a = some (dnO w a kvs) ∧ KeysIn K H kvs ∧ y = .ref b ∧ NkV K H k y ∧ k.depth ≤ 8 ∧ valN kvs k = none ∧ kvs.length < sizeLine ∧ H' = upd H a (dnO w a (kvs ++ [(k, b, v)]))
def tDNewN (w : World) : TE := fun _ H Q => ∀ p, H p = none → Q (.ref p) (upd H p (dnO w p []))
def tDnGet (K : PySem.W.Frag) (w : World) (td ty : TE) : TE := fun σ H Q => td σ H fun x H1 => ty σ H1 fun y H2 => ∃ a v, x = .ref a ∧ DnGet K w H2 a y (some v) ∧ Q v H2
def tDnIn (K : PySem.W.Frag) (w : World) (ty td : TE) : TE := fun σ H Q => ty σ H fun y H1 => td σ H1 fun x H2 => ∃ a o, x = .ref a ∧ DnGet K w H2 a y o ∧ Q (.bl o.isSome) H2
def tDnNotIn (K : PySem.W.Frag) (w : World) (ty td : TE) : TE := fun σ H Q => ty σ H fun y H1 => td σ H1 fun x H2 => ∃ a o, x = .ref a ∧ DnGet K w H2 a y o ∧ Q (.bl (!o.isSome)) H2
def sDnPut (K : PySem.W.Frag) (w : World) (td ty tv : TE) : TS := fun D σ H => tv σ H fun v H1 => td σ H1 fun x H2 => ty σ H2 fun y H3 => ∃ a H4, x = .ref a ∧ DnPut K w H3 a y v H4 ∧ D.nx σ H4
theorem dn_empty {w : World} {a : Addr} {h : Heap} {o : Obj} (hb : (a == sysModules) = false) (e : h.get? a = some o) (c : o.ExactDict) (d : o.data = .dict #[] 0) : DnP w a [] h :=
  ⟨Nat.zero_le _, hb, [], .nil, o, #[], 0, e, c, d, rfl, List.nodup_nil⟩
theorem dn_stay {w : World} {a : Addr} {kvs : List Ent} : ∀ h1 h2 : Heap, DnP w a kvs h1 → (∀ o, h1.get? a = some o → h2.get? a = some o) → DnP w a kvs h2 := fun h1 h2 ⟨z, y, xs, r, o, es, ep, e1, e2⟩ st => ⟨z, y, xs, r, o, es, ep, st o e1, e2⟩
section
variable {X : Cx} {K : PySem.W.Frag} {w : World} {o i value : Expr} {pos pos' : Pos} {td ty tv : TE}
theorem pe_dnewN (w : World) (ew : X.w = w := by rfl) : PE X (.Dict [] [] pos) (tDNewN w) := ⟨fun pins s σ H Q I h => by
  subst ew
  have hb : (s.heap.objs.size == sysModules) = false := beq_eq_false_iff_ne.mpr (Ne.symm (Nat.ne_of_lt I.big))
  refine wpAny_Dict_empty ⟨.ref s.heap.objs.size, _, I.laid (a := s.heap.objs.size) (o := dnO X.w s.heap.objs.size []) (t' := s.toks) (fun _ _ q => Heap.get?_push_of_some _ q) (Nat.le_refl _) ?_, rfl, h _ (I.hok.fresh (Nat.le_refl _))⟩
  exact ⟨dn_empty hb (Heap.get?_push_size _ rfl) ⟨rfl, rfl, rfl⟩ rfl, ⟨_, Heap.get?_push_size _ rfl⟩, dn_stay⟩⟩
theorem dn_typeIs {pins : List (Addr × Obj)} {σ : L2.St} {H : Hp} {s : Shared} {a : Addr} {y : V} {r : Option V} (I : Inv X pins σ H s) (g : DnGet X.K X.w H a y r) : s.TypeIs (.ref a) "dict" := by
  obtain ⟨kvs, k, b, e, ki, _⟩ := g
  obtain ⟨_, _, xs, _, dd⟩ := dn_of I e ki
  exact dd.typeIs
theorem pe_dgetN (K : PySem.W.Frag) (w : World) (hu : X.A.units + 9 < cLine) (ho : PE X o td) (hi : PE X i ty) (hs : NoSl i) (eK : X.K = K := by rfl) (ew : X.w = w := by rfl) : PE X (.Subscript o i pos) (tDnGet K w td ty) := by
  subst eK ew
  refine ⟨fun pins s σ H Q I h => ?_⟩
  refine subD_of PySem.F.slot_dict_getitem.lookup hs (thn (ho.run pins s σ H _ I h) fun u s1 ⟨x, H1, I1, rx, q1⟩ => thn (hi.run pins s1 σ H1 _ I1 q1) fun iv s2 ⟨y, H2, I2, ry, a, v, ex, g, q2⟩ => ?_)
  subst ex
  obtain rfl : u = Value.ref a := rx
  refine ⟨dn_typeIs I2 g, ?_⟩
  obtain ⟨kvs, k, b, e, ki, rfl, hk, hd, l⟩ := g
  obtain rfl : iv = Value.ref b := ry
  obtain ⟨z, _, xs, rel, dd⟩ := dn_of I2 e ki
  obtain ⟨w', hw, rw'⟩ := RelO.some_of (v := v) (o := (atKey xs k).map (·.2)) (by rw [l]; exact dn_val rel k)
  obtain ⟨p, hp, hp2⟩ := Option.map_eq_some_iff.mp hw
  refine wpAny_getItem_heap (knd := nestedKind X.prog X.w) (show X.A.in1.units + 8 < cLine by rw [Around.in1_units]; omega) (nk_kind I2 hk hd) dd hp ?_
  rw [hp2]
  exact ⟨v, H2, I2.tok _, rw', q2⟩
theorem pc_dinN (K : PySem.W.Frag) (w : World) (hu : X.A.units + 9 < cLine) (hi : PE X i ty) (ho : PE X o td) (eK : X.K = K := by rfl) (ew : X.w = w := by rfl) : PC X .In i o (tDnIn K w ty td) := by
  subst eK ew
  refine ⟨fun pins s σ H Q I h => ?_⟩
  refine thn (hi.run pins s σ H _ I h) fun iv s1 ⟨y, H1, I1, ry, q1⟩ => thn (ho.run pins s1 σ H1 _ I1 q1) fun u s2 ⟨x, H2, I2, rx, a, ov, ex, g, q2⟩ => ?_
  subst ex
  obtain rfl : u = Value.ref a := rx
  obtain ⟨kvs, k, b, e, ki, rfl, hk, hd, l⟩ := g
  obtain rfl : iv = Value.ref b := ry
  obtain ⟨z, hl, xs, rel, dd⟩ := dn_of I2 e ki
  refine wpAny_in_heap (knd := nestedKind X.prog X.w) (show X.A.in1.units + 8 < cLine by rw [Around.in1_units]; omega) (nk_kind I2 hk hd) hl dd ?_
  have q := (dn_val rel k).isSome_eq
  rw [Option.isSome_map] at q
  rw [← q, ← l]
  exact ⟨.bl ov.isSome, H2, I2.tok _, rfl, q2⟩
theorem pc_dnotinN (K : PySem.W.Frag) (w : World) (hu : X.A.units + 9 < cLine) (hi : PE X i ty) (ho : PE X o td) (eK : X.K = K := by rfl) (ew : X.w = w := by rfl) : PC X .NotIn i o (tDnNotIn K w ty td) := by
  subst eK ew
  refine ⟨fun pins s σ H Q I h => ?_⟩
  refine thn (hi.run pins s σ H _ I h) fun iv s1 ⟨y, H1, I1, ry, q1⟩ => thn (ho.run pins s1 σ H1 _ I1 q1) fun u s2 ⟨x, H2, I2, rx, a, ov, ex, g, q2⟩ => ?_
  subst ex
  obtain rfl : u = Value.ref a := rx
  obtain ⟨kvs, k, b, e, ki, rfl, hk, hd, l⟩ := g
  obtain rfl : iv = Value.ref b := ry
  obtain ⟨z, hl, xs, rel, dd⟩ := dn_of I2 e ki
  refine wpAny_notIn_heap (knd := nestedKind X.prog X.w) (show X.A.in1.units + 8 < cLine by rw [Around.in1_units]; omega) (nk_kind I2 hk hd) hl dd ?_
  have q := (dn_val rel k).isSome_eq
  rw [Option.isSome_map] at q
  rw [← q, ← l]
  exact ⟨.bl (!ov.isSome), H2, I2.tok _, rfl, q2⟩
theorem ps_dputN (K : PySem.W.Frag) (w : World) (hu : X.A.units + 9 < cLine) (ho : PE X o td) (hi : PE X i ty) (hv : PE X value tv) (hs : swapsWith value (some (.Subscript o i pos')) pos.line X.env = pure false) (eK : X.K = K := by rfl) (ew : X.w = w := by rfl) :
    PS X (.Assign [.Subscript o i pos'] value pos) (sDnPut K w td ty tv) := by
  subst eK ew
  refine ⟨fun pins s σ H D I h => ?_⟩
  refine wpAny_Assign_Subscript (thn (hv.run pins s σ H _ I h) fun r s1 ⟨v, H1, I1, rv, q1⟩ => thn (ho.run pins s1 σ H1 _ I1 q1) fun u s2 ⟨x, H2, I2, rx, q2⟩ => thn (hi.run pins s2 σ H2 _ I2 q2) fun iv s3 ⟨y, H3, I3, ry, a, H4, ex, g, q3⟩ => ?_) hs
  subst ex
  obtain rfl : u = Value.ref a := rx
  obtain ⟨kvs, k, b, e, ki, rfl, hk, hd, l, hz, rfl⟩ := g
  obtain rfl : iv = Value.ref b := ry
  obtain ⟨z, hl, xs, rel, dd⟩ := dn_of I3 e ki
  have hz' : xs.length ≤ sizeLine := by rw [← Paired.length rel]; exact z
  have hno : atKey xs k = none := by
    have q := (dn_val rel k).isSome_eq
    rw [Option.isSome_map, l] at q
    cases h : atKey xs k with
    | none => rfl
    | some p => rw [h] at q; cases q
  refine wpAny_setItem_heap (knd := nestedKind X.prog X.w) (hsz := hz') (show X.A.in1.units + 8 < cLine by rw [Around.in1_units]; omega) (nk_kind I3 hk hd) dd fun h' dd' hs => ?_
  rw [storedH_new hno] at dd'
  obtain ⟨q, es, ep, hq, h2, h3, h4, _, h5⟩ := dd'
  refine ⟨σ, _, d_write (ob := dnO X.w a (kvs ++ [(k, b, v)])) I3 (by rw [e]; exact True.intro) hs ⟨q, hq⟩ ⟨⟨?_, hl, _, dn_snoc rel rv, q, es, ep, hq, h2, h3, h4, h5⟩, ⟨q, hq⟩, dn_stay⟩, q3⟩
  rw [List.length_append]
  show kvs.length + 1 ≤ sizeLine
  omega
/-- len of such a dict -/
theorem call_lenN (K : PySem.W.Frag) (w : World) (eK : X.K = K := by rfl) (ew : X.w = w := by rfl) : CallR X (.builtin "len") (fun xs H Q => ∃ a kvs, xs = [V.ref a] ∧ H a = some (dnO w a kvs) ∧ Q (.int kvs.length) H) := by
  subst eK ew
  intro pins s σ H xs us Q I r h
  obtain ⟨a, kvs, rfl, ha, q⟩ := h
  obtain ⟨u, rfl, ru⟩ := vals1 r
  cases ru
  obtain ⟨⟨z, y, ws, rel, o, es, ep, h1, h2, h3, h4, h5⟩, _, _⟩ := (show ObjOk X.prog X.w H s.heap a (dnO X.w a kvs) from I.hok a _ ha)
  have hn : es.size = kvs.length := by rw [← Array.length_toList, h4, List.length_map, ← Paired.length rel]
  have ty : s.TypeIs (.ref a) "dict" := ⟨o, h1, h2.1⟩
  refine Calls.call_function_entry kind_len plain_len entry_len (args_len1 _) ?_
  unfold Builtin.«len»
  refine wpAny_bind (m := oneArg "len" _) (wpAny_pure ?_)
  refine wpAny_bind (m := callSpecial? (.ref a) (Str.ofString "__len__")) (wpAny_callSpecial?_slot (name := Str.ofString "__len__") ty PySem.F.slot_dict_len
    (call_meetsIn PySem.F.slot_dict_len ty PySem.F.entry_dict_len (PySem.F.args_dict_len_1 _) (.of_wp (S := fun _ R s => (∃ o, s.heap.get? a = some o ∧ o.data = .dict es ep) ∧ R (.ok (.ret (.int kvs.length s.toks))) { s with toks := s.toks + 1 }) fun A R s ⟨⟨o, ho, hdat⟩, h⟩ => ?_) ⟨⟨o, h1, h3⟩, ?_⟩))
  · show wpAny _ _ (dictSize a >>= _) _ _ s
    unfold dictSize
    refine wpAny_bind (wpAny_bind (wpAny_dictEntries ho hdat (wpAny_pure ?_)))
    show wpAny _ _ (Builtin.Dict.pendingCount a >>= _) _ _ s
    refine wpAny_bind (wpAny_pendingCount_other y ?_)
    refine wpAny_ret_mkInt ?_
    rw [Nat.add_zero, hn]; exact h
  · show wpAny _ _ _ _ _ { s with toks := s.toks + 1 }
    refine wpAny_bind (wpAny_holding (wpAny_pure ?_))
    refine wpAny_bind (wpAny_letGo ?_)
    have fit : (kvs.length : Int) < 2 ^ 63 := by rw [sizeLine_eq] at z; omega
    show wpAny _ _ (if ((kvs.length : Nat) : Int) < 0 then _ else _) _ _ _
    rw [if_neg (by omega)]
    show wpAny _ _ (if ((kvs.length : Nat) : Int) ≥ 2 ^ 63 then _ else _) _ _ _
    rw [if_neg (by omega)]
    exact wpAny_bind (wpAny_mkInt (wpAny_pure ⟨_, rfl, ⟨.int kvs.length, H, I.tok _, ⟨_, rfl⟩, q⟩⟩))
/-- the key tuples of such a dict, in order -/
theorem call_list_dN (hc : X.calm = true) (w : World) (ew : X.w = w := by rfl) : CallR X (.type "list") (fun xs H Q => ∃ d kvs, xs = [V.ref d] ∧ H d = some (dnO w d kvs) ∧ ∀ p, H p = none → Q (.ref p) (upd H p (.lst (kvs.map fun e => V.ref e.2.1)))) := by
  subst ew
  intro pins s σ H xs us Q I r h
  obtain ⟨d, kvs, rfl, hd, q⟩ := h
  obtain ⟨u, rfl, rx⟩ := r.one
  cases rx
  obtain ⟨⟨z, hs, ks, pr, o, es, ep, ho, hx, hdt, he, hn⟩, _, _⟩ := (show ObjOk X.prog X.w H s.heap d (dnO X.w d kvs) from I.hok d _ hd)
  have l1 : es.size = ks.length := by rw [← Array.length_toList, he, List.length_map]
  have l2 : kvs.length = ks.length := Paired.length pr
  refine PySem.W.kdl_call (kdl_raw hs hx hdt) (I.ok.hd hc) ho (by omega) fun h' tk acc' c' kp e it => ?_
  have ea : acc'.toList = (kvs.map (·.2.1)).map Value.ref := by
    rw [← (dn_keys pr).2, List.map_map]
    have hl : acc'.toList.length = ks.length := by rw [Array.length_toList, it.1]; exact l1
    apply List.ext_getElem?
    intro j
    rw [List.getElem?_map]
    cases hj : acc'.toList[j]? with
    | none =>
      have h1 := List.getElem?_eq_none_iff.mp hj
      rw [List.getElem?_eq_none (by omega)]
      all_goals rfl
    | some v =>
      obtain ⟨en, hen, hv⟩ := it.2 j v (by rw [← Array.getElem?_toList]; exact hj)
      rw [← Array.getElem?_toList, he, List.getElem?_map] at hen
      cases hb : ks[j]? with
      | none =>
        rw [hb] at hen
        cases hen
      | some b =>
        rw [hb] at hen
        cases hen
        rw [hv]
        all_goals rfl
  have e0 : (kvs.map fun e => V.ref e.2.1) = (kvs.map (·.2.1)).map V.ref := by rw [List.map_map]; rfl
  have rv : Vals (kvs.map fun e => V.ref e.2.1) acc'.toList := by rw [ea, e0]; exact vals_refs _
  refine ⟨.ref s.heap.objs.size, _, I.laid (t' := tk) (o := .lst (kvs.map fun e => V.ref e.2.1)) kp (Nat.le_refl _) ?_, rfl, q _ (I.hok.fresh (Nat.le_refl _))⟩
  exact ⟨by rw [List.length_map]; exact z, acc'.toList, c', rv, by rw [Array.toArray_toList]; exact e⟩
end
end Nv
set_option Elab.async false
set_option linter.all false
set_option maxRecDepth 100000
namespace Nv
open PySem PySem.Spec PyProof.Rows L2
section
variable {P : Program} {w : World} {K : PySem.W.Frag} {mg : Str → Option Value} {base : Heap}
/-! ### states in a list -/
/-- a book as a list of states -/
def BkS (K : PySem.W.Frag) (H : Hp) (v : V) (b : Book) : Prop := ∃ (a : Addr) (vs : List V), v = .ref a ∧ SqL K H a vs ∧ Paired (StW K H) vs b
theorem BkS.ext0 {K : PySem.W.Frag} {H H' : Hp} {v : V} {b : Book} (h : BkS K H v b) (e : Ext [] H H') : BkS K H' v b := by
  obtain ⟨a, vs, rfl, h1, h2⟩ := h
  exact ⟨a, vs, rfl, e.frz (by simp) h1, Paired.imp h2 fun _ _ z => by obtain ⟨c, ps, rfl, h3, h4⟩ := z; exact ⟨c, ps, rfl, e.tup Lsts.nil h3, Paired.imp h4 fun _ _ q => e.tup Lsts.nil q⟩⟩
/-! ### states by meeting, in a list -/

def sp_first_rowsS (K : PySem.W.Frag) : Sp := fun vs H Q _ => ∃ (v : V) (b : Book), vs = [v, .int 0] ∧ BkS K H v b ∧ FormB b ∧ ∀ (F : List Nat) (kvs : List (Key × V)) (d : Addr) (H' : Hp), MetO b F → kvs.map (·.1) = F.map kN → H' d = some (.dK kvs) → Ext [] H H' → Q (.ref d) H'
theorem okS_first_rows (T : Tx K mg) : FnOk P w K mg base CX0 1 T.first_rows.f T.first_rows.fd ["states", "start"] (sp_first_rowsS K) := by
  refine T.first_rows.F.ok sc_first_rows (fun vs H Q E h => ?_) (fun cdv A outer s H vs Q E hr h => ?_)
  · obtain ⟨v, b, rfl, _⟩ := h; rfl
  · obtain ⟨v, b, rfl, ⟨a, ls, rfl, ha, hls⟩, ok, q⟩ := h
    have llen := Paired.len hls
    have h8 := ok.eight
    refine ⟨_, (pss_cons (ps_set (i := 2) sc_first_rows.nd rfl (.inl rfl) (pe_disp (pps_cons (pv 1) (pe_tup pa_nil) pps_nil) (by rfl) (by rfl) (fun z => by cases z) (by decide)))
      (pss_cons (ps_set (i := 3) sc_first_rows.nd rfl (.inl rfl) (pe_lst (pa_cons (pv 1) pa_nil)))
      (pss_cons (ps_set (i := 4) sc_first_rows.nd rfl (.inl rfl) pe_int)
      (pss_cons (ps_while PassesOwn.never (pt_cmpR op_lt (pv 4) (pe_callB call_len_seq (by rfl) T.n_len PySem.boot_len (pa_cons (pv 3) pa_nil)) (nomark _))
        (pss_cons (ps_set (i := 5) sc_first_rows.nd rfl (.inl rfl) (pe_ix ix_list (pv 3) (pv 4) (fun _ _ => rfl)))
        (pss_cons (ps_aug (i := 4) sc_first_rows.nd rfl (.inl rfl) pe_int ip_add)
        (pss_one (ps_for PassesOwn.never rfl (pi_tup (pe_ix ix_list (pv 0) (pv 5) (fun _ _ => rfl))) (pg_tup rfl (pgs_cons (pg_name (i := 6) sc_first_rows.nd rfl (.inl rfl)) (pgs_cons (pg_name (i := 7) sc_first_rows.nd rfl (.inl rfl)) pgs_nil)))
          (pss_one (ps_if (pt_cmp (pc_dnotin (hu_of hr) (pv 7) (pv 2)))
            (pss_cons (ps_dput (hu_of hr) (pv 2) (pv 7) (pe_op op_catA (pe_dget (hu_of hr) (pv 2) (pv 5) (fun _ _ => rfl)) (pe_tup (pa_cons (pv 6) pa_nil))) rfl)
            (pss_one (ps_expr (pe_bm PySem.F.plainAttrs_list PySem.F.slot_list_append PySem.F.type_list_append mt_append (pv 3) (pa_cons (pv 7) pa_nil)))))
            pss_nil)))))))
      (pss_one (ps_ret (pv 2))))))), ?_⟩
    -- rows = {0: ()}
    refine fun d hd => ⟨_, rfl, Nat.zero_le _, fun t ht => ?_⟩
    have e1 : Ext [] H (upd H d (.dK [])) := .new hd
    have e2 := e1.trans (Ext.new (L := []) (o := .tup []) ht)
    have dt : d ≠ t := fun z => by rw [← z, upd_same] at ht; cases ht
    refine ⟨by rw [upd_ne dt, upd_same], [(kN 0, .ref t)], rfl, (by show 1 ≤ 15; decide), ?_⟩
    have e3 := e2.put (o := .dK (mergeK [] [(kN 0, .ref t)])) hd
    have hd3 : upd (upd (upd H d (.dK [])) t (.tup [])) d (.dK (mergeK [] [(kN 0, .ref t)])) d = some (.dK [(kN 0, .ref t)]) := upd_same
    have ht3 : upd (upd (upd H d (.dK [])) t (.tup [])) d (.dK (mergeK [] [(kN 0, .ref t)])) t = some (.tup []) := by rw [upd_ne dt.symm, upd_same]
    generalize upd (upd (upd H d (.dK [])) t (.tup [])) d (.dK (mergeK [] [(kN 0, .ref t)])) = H3 at *
    -- order = [0]
    refine ⟨_, rfl, (by show 1 ≤ sizeLine; decide), fun o ho => ?_⟩
    have ho0 : H o = none := e3.free ho
    have od : d ≠ o := ne_of_none hd3 ho
    have e4 := e3.put2 (o := .lst [.int 0]) ho
    -- the loop
    let Row : Hp → Nat → V → Prop := fun H' m v => ∃ (x : Addr) (xs : List V), v = .ref x ∧ SqT K H' x xs ∧ xs.length ≤ m
    refine ⟨fun m σ H' => ∃ (F : List Nat) (kvs : List (Key × V)) (i : Nat) (y4 y5 y6 : Option V), σ = [some (.ref a), some (.int 0), some (.ref d), some (.ref o), some (.int i), y4, y5, y6] ∧ MetIO b F i ∧ m = b.length - i ∧ H' o = some (.lst (F.map nV)) ∧ H' d = some (.dK kvs) ∧ kvs.map (·.1) = F.map kN ∧ (∀ e ∈ kvs, Row H' F.length e.2) ∧ Ext [] H H',
      ⟨_, [0], [(kN 0, .ref t)], 0, _, _, _, rfl, .first ok.one, rfl, upd_same, by rw [upd_ne od]; exact hd3, rfl, fun e he => ?_, e4⟩, ?_⟩
    · obtain rfl := List.mem_singleton.mp he
      have ot : t ≠ o := ne_of_none ht3 ho
      exact ⟨t, [], rfl, .of (by rw [upd_ne ot]; exact ht3), Nat.zero_le _⟩
    rintro m σ H' ⟨F, kvs, i, y4, y5, y6, rfl, mi, rfl, hF, hD, hk, hrow, e⟩
    have Fle : F.length ≤ b.length := nodup_le mi.nd mi.lt
    refine ⟨_, rfl, _, rfl, o, _, rfl, .inl (.of hF), _, _, rfl, rfl, _, rfl, ite2 (fun z => ?_) (fun z => ?_)⟩
    · have z := of_decide_eq_true z
      rw [List.length_map] at z
      have hiF : i < F.length := by omega
      have hs : F[i]? = some F[i] := List.getElem?_eq_getElem hiF
      generalize F[i] = x at hs
      have gx : (stB b i)[i]? = some x := by rw [← mi.eq]; exact hs
      have hx : x < b.length := mi.lt x (List.mem_of_getElem? hs)
      obtain ⟨u, hu, c, ps, rfl, hc, hps⟩ := Paired.get hls (mvs_lt hx)
      have plen := Paired.len hps
      refine ⟨fun σ H' => ∃ (F : List Nat) (kvs : List (Key × V)) (y4 y5 y6 : Option V), σ = [some (.ref a), some (.int 0), some (.ref d), some (.ref o), some (.int (i + 1 : Nat)), y4, y5, y6] ∧ MetIO b F (i + 1) ∧ H' o = some (.lst (F.map nV)) ∧ H' d = some (.dK kvs) ∧ kvs.map (·.1) = F.map kN ∧ (∀ e ∈ kvs, Row H' F.length e.2) ∧ Ext [] H H', ?_, ?_⟩
      · rintro σ' H' ⟨F, kvs, y4, y5, y6, rfl, mi, r⟩
        exact ⟨b.length - (i + 1), by omega, F, kvs, i + 1, _, _, _, rfl, mi, rfl, r⟩
      refine ⟨_, rfl, _, rfl, o, _, _, _, rfl, rfl, .of hF, atI_nat (at_map hs), ?_⟩
      refine ⟨_, rfl, _, _, rfl, rfl, ?_⟩
      refine ⟨_, rfl, _, rfl, a, _, _, _, rfl, rfl, e.frz (by simp) ha, atI_nat hu, c, rfl, ⟨_, (e.tup Lsts.nil hc)⟩, ?_⟩
      refine for_tup (K := K) (a := c) (xs := ps.map V.ref) (fun k σ H' => ∃ (F : List Nat) (kvs : List (Key × V)) (y5 y6 : Option V), σ = [some (.ref a), some (.int 0), some (.ref d), some (.ref o), some (.int ((i : Int) + 1)), some (nV x), y5, y6] ∧ MetWO b F i x k ∧ H' o = some (.lst (F.map nV)) ∧ H' d = some (.dK kvs) ∧ kvs.map (·.1) = F.map kN ∧ (∀ e ∈ kvs, Row H' F.length e.2) ∧ Ext [] H H')
        ⟨F, kvs, _, _, rfl, mi.begin hs, hF, hD, hk, hrow, e⟩ (fun k σ H' _ ⟨_, _, _, _, _, _, _, _, _, _, e⟩ => (e.tup Lsts.nil hc)) ?_ ?_
      · rintro k v σ H' hv ⟨F, kvs, y5, y6, rfl, mw, hF, hD, hk, hrow, e⟩
        obtain ⟨g, hg, rfl⟩ := map_at hv
        obtain ⟨p, hp, hcp⟩ := Paired.get' hps hg
        have hcp := hcp.ext0 e
        have Fle : F.length ≤ b.length := nodup_le mw.nd mw.lt
        have pb : p.2 < b.length := ok.to (List.mem_of_getElem? hp)
        refine ⟨g, _, rfl, hcp, rfl, _, _, rfl, _, _, rfl, rfl, ?_⟩
        refine ⟨_, rfl, _, rfl, d, _, rfl, DGet.k (k := kN p.2) hD, _, rfl, ?_⟩
        rw [valV_key hk]
        by_cases hin : p.2 ∈ F
        · rw [decide_eq_true hin]
          exact iteF ⟨F, kvs, _, _, rfl, mw.skip hp hin, hF, hD, hk, hrow, e⟩
        · rw [decide_eq_false hin]
          refine iteT ?_
          -- rows[state] + (message,)
          have xin : x ∈ F := List.mem_of_getElem? mw.here
          have hsome : (valV kvs (kN x)).isSome = true := by rw [valV_key hk]; exact decide_eq_true xin
          obtain ⟨rv, hrv⟩ := Option.isSome_iff_exists.mp hsome
          obtain ⟨r, rs, er, hr1, hr2⟩ := hrow _ (valV_mem hrv)
          have er : rv = .ref r := er
          subst er
          have newk : valV kvs (kN p.2) = none := by
            have := valV_key hk p.2
            rw [decide_eq_false hin] at this
            cases h : valV kvs (kN p.2) with
            | none => rfl
            | some z => rw [h] at this; cases this
          have klen : kvs.length = F.length := by have := congrArg List.length hk; simpa using this
          -- behind the new row: the dict, the list
          have fin : ∀ (nr : Addr) (ys : List V) (H4 : Hp), Ext [] H' H4 → SqT K H4 nr ys → ys.length ≤ F.length + 1 → ∃ H5, DPut H4 d (.int p.2) (.ref nr) H5 ∧
              ∃ q5 : H5 = upd H4 d (.dK (kvs ++ [(kN p.2, .ref nr)])), H5 o = some (.lst (F.map nV)) ∧ H5 d = some (.dK (kvs ++ [(kN p.2, .ref nr)])) ∧ (∀ e ∈ kvs ++ [(kN p.2, .ref nr)], Row H5 (F.length + 1) e.2) ∧ Ext [] H H5 := by
            intro nr ys H4 e4 hn hl
            have hD4 := e4.at hD (by simp)
            have hF4 := e4.at hF (by simp)
            refine ⟨_, DPut.k (k := kN p.2) hD4 (small1000 (by omega)), by rw [putK_new _ newk], ?_⟩
            rw [putK_new _ newk]
            have ee : Ext [d] H4 (upd H4 d (.dK (kvs ++ [(kN p.2, .ref nr)]))) := .wr (by simp)
            refine ⟨by rw [upd_ne od.symm]; exact hF4, upd_same, fun z hz => ?_, (e.trans e4).put hd⟩
            rcases List.mem_append.mp hz with hz | hz
            · obtain ⟨x, xs, h1, h2, h3⟩ := hrow z hz
              exact ⟨x, xs, h1, ee.tup (one_dk hD4) (e4.tup Lsts.nil h2), by omega⟩
            · obtain rfl := List.mem_singleton.mp hz
              exact ⟨nr, ys, rfl, ee.tup (one_dk hD4) hn, hl⟩
          have last : ∀ (nr : Addr) (H5 : Hp), H5 o = some (.lst (F.map nV)) → H5 d = some (.dK (kvs ++ [(kN p.2, .ref nr)])) → (∀ e ∈ kvs ++ [(kN p.2, .ref nr)], Row H5 (F.length + 1) e.2) → Ext [] H H5 →
              ∃ (F' : List Nat) (kvs' : List (Key × V)) (y5 y6 : Option V), [some (.ref a), some (.int 0), some (.ref d), some (.ref o), some (.int ((i : Int) + 1)), some (nV x), some (.int p.1), some (.int p.2)] = [some (.ref a), some (.int 0), some (.ref d), some (.ref o), some (.int ((i : Int) + 1)), some (nV x), y5, y6] ∧
                MetWO b F' i x (k + 1) ∧ upd H5 o (.lst (F.map nV ++ [.int p.2])) o = some (.lst (F'.map nV)) ∧ upd H5 o (.lst (F.map nV ++ [.int p.2])) d = some (.dK kvs') ∧ kvs'.map (·.1) = F'.map kN ∧ (∀ e ∈ kvs', Row (upd H5 o (.lst (F.map nV ++ [.int p.2]))) F'.length e.2) ∧ Ext [] H (upd H5 o (.lst (F.map nV ++ [.int p.2]))) := by
            intro nr H5 h1 h2 h3 h4
            refine ⟨F ++ [p.2], kvs ++ [(kN p.2, .ref nr)], _, _, rfl, mw.push hp hin pb, by rw [upd_same, List.map_append]; rfl, by rw [upd_ne od]; exact h2, by rw [List.map_append, List.map_append, hk]; rfl, fun z hz => ?_, h4.put ho0⟩
            obtain ⟨x, xs, g1, g2, g3⟩ := h3 z hz
            exact ⟨x, xs, g1, Ext.tup (L := [o]) (.wr (by simp)) (one_lst h1) g2, by rw [List.length_append]; exact g3⟩
          refine ⟨_, rfl, _, rfl, d, _, rfl, by rw [← hrv]; exact DGet.k (k := kN x) hD, _, rfl, (by show 1 ≤ sizeLine; decide), fun g2 hg2 => ?_⟩
          have e5 : Ext [] H' (upd H' g2 (.tup [.int p.1])) := .new hg2
          refine ⟨r, g2, rs, _, rfl, rfl, e5.tup Lsts.nil hr1, .of upd_same, ?_, fun h0 => ?_, fun _ h0 => (by cases h0), fun _ _ g3 hg3 => ?_⟩
          · show rs.length + 1 ≤ sizeLine
            exact Nat.le_of_lt (small1000 (by omega))
          · obtain ⟨H5, dp, _, f1, f2, f3, f4⟩ := fin g2 [.int p.1] _ e5 (.of upd_same) (by simp)
            refine ⟨_, rfl, _, rfl, d, H5, rfl, dp, ?_⟩
            exact ⟨_, rfl, .inl ⟨rfl, _, .of f1⟩, _, rfl, o, _, _, rfl, rfl, f1, by rw [List.length_map]; exact small1000 (by omega), last g2 H5 f1 f2 f3 f4⟩
          · obtain ⟨H5, dp, _, f1, f2, f3, f4⟩ := fin g3 (rs ++ [.int p.1]) _ (e5.put2 hg3) (.of upd_same) (by rw [List.length_append]; show rs.length + 1 ≤ _; omega)
            refine ⟨_, rfl, _, rfl, d, H5, rfl, dp, ?_⟩
            exact ⟨_, rfl, .inl ⟨rfl, _, .of f1⟩, _, rfl, o, _, _, rfl, rfl, f1, by rw [List.length_map]; exact small1000 (by omega), last g3 H5 f1 f2 f3 f4⟩
      · rintro σ H' ⟨F, kvs, y5, y6, rfl, mw, hF, hD, hk, hrow, e⟩
        exact ⟨F, kvs, _, _, _, by rw [Int.natCast_add]; rfl, mw.done gx (by rw [List.length_map, plen]; exact Nat.le_refl _), hF, hD, hk, hrow, e⟩
    · have z : ¬ ((i : Int) < ((F.map nV).length : Int)) := fun y => z (decide_eq_true y)
      rw [List.length_map] at z
      have := mi.le
      exact ⟨_, rfl, q F kvs d H' (mi.met (by omega)) hk hD e⟩

theorem sc_by_meeting : FnScope ["states", "order", "number", "k", "state", "message", "to"] ["states"] (defScope s_by_meeting) := ⟨rfl, rfl, rfl, by decide +kernel, rfl, by decide +kernel, by decide +kernel⟩
def sp_by_meeting (K : PySem.W.Frag) : Sp := fun vs H Q _ => ∃ (v : V) (b : Book), vs = [v] ∧ BkS K H v b ∧ FormB b ∧ ∀ (v' : V) (H' : Hp), BkV K H' v' (rename b (ordB b)) → Ext [] H H' → Q v' H'
theorem ok_by_meeting (T : Tx K mg) : FnOk P w K mg base CX0 3 T.by_meeting.f T.by_meeting.fd ["states"] (sp_by_meeting K) := by
  refine T.by_meeting.F.ok sc_by_meeting (fun vs H Q E h => ?_) (fun cdv A outer s H vs Q E hr h => ?_)
  · obtain ⟨v, b, rfl, _⟩ := h; rfl
  · obtain ⟨v, b, rfl, hw, fb, q⟩ := h
    obtain ⟨m, ls, rfl, hm, hls⟩ := id hw
    have h8 := fb.eight
    refine ⟨_, (pss_cons (ps_set (i := 1) sc_by_meeting.nd rfl (.inl rfl) (pe_callTy (call_list_dK rfl) (by rfl) T.n_list (by decide +kernel) (pa_cons (pe_call (okS_first_rows T) (hr.mono (by decide)) (by rfl) T.first_rows.g T.first_rows.F.kp T.first_rows.bD.choose_spec.2 T.first_rows.bD.choose_spec.1 pass0 (pa_cons (pv 0) pa_nil)) pa_nil)))
      (pss_cons (ps_set (i := 2) sc_by_meeting.nd rfl (.inr rfl) (pe_dc (own := [("k", 3), ("state", 4)]) rfl sc_by_meeting.nd (pi_enum (by rfl) T.n_enumerate (pa_cons (pv 1) pa_nil)) (blkOk_by (own := [("k", 3), ("state", 4)]) (N := ["states", "order", "number", "k", "state", "message", "to"]) (sc := defScope s_by_meeting) (by decide +kernel)) (fun _ _ _ _ _ => (pg_tupK (n := 2) K rfl (pgs_cons (pg_name (i := 3) sc_by_meeting.nd rfl (.inl rfl)) (pgs_cons (pg_name (i := 4) sc_by_meeting.nd rfl (.inl rfl)) pgs_nil)))) (fun _ _ _ _ _ => pts_nil) (fun _ _ _ _ _ => (pv 4)) (fun _ _ _ _ _ => (pv 3))))
      (pss_one (ps_ret (pe_callTy call_tupZ (by rfl) T.n_tuple (by decide +kernel) (pa_cons (pe_lc (own := [("state", 4)]) rfl sc_by_meeting.nd (pi_list (pv 1)) (blkOk_by (own := [("state", 4)]) (N := ["states", "order", "number", "k", "state", "message", "to"]) (sc := defScope s_by_meeting) (by decide +kernel)) (fun _ _ _ _ _ => (pg_name (i := 4) sc_by_meeting.nd rfl (.inl rfl))) (fun _ _ _ _ _ => pts_nil) (fun _ _ _ _ _ => (pe_callTy (call_tupZK K) (by rfl) T.n_tuple (by decide +kernel) (pa_cons (pe_lc (own := [("message", 5), ("to", 6)]) rfl sc_by_meeting.nd (pi_tupK K (pe_ix (ix_listK K) (pv 0) (pv 4) (fun _ _ => rfl))) (blkOk_by (own := [("message", 5), ("to", 6)]) (by kernel_rfl)) (fun _ _ _ _ _ => (pg_tupK (n := 2) K rfl (pgs_cons (pg_name (i := 5) sc_by_meeting.nd rfl (.inl rfl)) (pgs_cons (pg_name (i := 6) sc_by_meeting.nd rfl (.inl rfl)) pgs_nil)))) (fun _ _ _ _ _ => pts_nil) (fun _ _ _ _ _ => (pe_tup (pa_cons (pv 5) (pa_cons (pe_dget (hu_of hr) (pv 2) (pv 6) (fun _ _ => rfl)) pa_nil))))) pa_nil)))) pa_nil)))))), ?_⟩
    refine ⟨_, rfl, _, b, rfl, hw, fb, fun F kvs d H1 mo hk hd e1 => ⟨d, kvs, rfl, hd, fun f hf => ?_⟩⟩
    have eF : (kvs.map fun kv => kV kv.1) = F.map nV := by
      have : (kvs.map fun kv => kV kv.1) = (kvs.map (·.1)).map kV := by rw [List.map_map]; rfl
      rw [this, hk, List.map_map]
      rfl
    rw [eF]
    have ef : Ext [] H1 (upd H1 f (.lst (F.map nV))) := .new hf
    have hF2 : upd H1 f (.lst (F.map nV)) f = some (.lst (F.map nV)) := upd_same
    have e2 := e1.trans ef
    clear hf ef
    generalize upd H1 f (.lst (F.map nV)) = H2 at *
    have hl8 : F.length ≤ 8 := Nat.le_trans (nodup_le mo.nd mo.lt) h8
    -- number = {state: k ..}
    refine ⟨_, rfl, f, _, rfl, .of hF2, fun N hN => ?_⟩
    refine dc_it (walk_enum (K := K) (a := f) (xs := F.map nV)) (fun i H' => H' N = some (.dK (placesK (F.take i))) ∧ Ext [] H2 H') ⟨by simp [placesK]; exact upd_same, .new hN⟩ (fun i H' _ ⟨_, e⟩ => .of (e.at hF2 (by simp))) ?_ ?_
    · rintro i v H3 H' hi ⟨hX, e⟩ ⟨t, x, y, rfl, nt, rfl, hx, hy⟩
      cases hx
      obtain ⟨s, hs, rfl⟩ := map_at (show (F.map nV)[i]? = some y from hy)
      have e3 := e.put2 (o := .tup [.int i, nV s]) nt
      have hX3 : upd H3 t (.tup [.int i, nV s]) N = _ := (upd_ne (ne_of_none hX nt)).trans hX
      have hiF : i < F.length := (List.getElem?_eq_some_iff.mp hs).1
      refine ⟨t, _, rfl, .of upd_same, rfl, _, _, rfl, _, _, rfl, rfl, rfl, yes ?_⟩
      refine ⟨_, rfl, _, rfl, placesK (F.take i), kN s, rfl, hX3, ?_, ?_, e3.put hN⟩
      · rw [placesK_len, List.length_take]
        exact small1000 (by omega)
      · have hnew : s ∉ F.take i := fun z => by
          obtain ⟨j, hj, ej⟩ := List.mem_iff_getElem.mp z
          rw [List.getElem_take] at ej
          rw [List.length_take] at hj
          have a1 := idx_of mo.nd hs
          have a2 := idx_of mo.nd (j := j) (s := s) (by rw [List.getElem?_eq_getElem (by omega), ej])
          omega
        have hp := placesK_put hnew
        rw [List.length_take, Nat.min_eq_left (Nat.le_of_lt hiF)] at hp
        rw [upd_same, List.take_add_one, hs]
        exact congrArg (fun z => some (HO.dK z)) hp
    · rintro H3 ⟨hN3, e3⟩
      rw [List.length_map, List.take_length] at hN3
      have hF3 := e3.at hF2 (by simp)
      have f3 := e2.trans e3
      have hw3 := hw.ext0 f3
      clear hN
      -- the new book
      refine ⟨_, rfl, f, rfl, ⟨_, .of hF3⟩, fun D hD => ?_⟩
      have fD : f ≠ D := ne_of_none hF3 hD
      have ND : N ≠ D := ne_of_none hN3 hD
      have hDH : H D = none := f3.free hD
      refine lc_list (K := K) (a := f) (xs := F.map nV) (fun i H' => ∃ vs : List V, H' D = some (.lst vs) ∧ Paired (StV K H') vs ((rename b F).take i) ∧ Ext [] H H' ∧ H' f = some (.lst (F.map nV)) ∧ H' N = some (.dK (placesK F))) ⟨[], upd_same, .nil, f3.put2 hD, by rw [upd_ne fD]; exact hF3, by rw [upd_ne ND]; exact hN3⟩ (fun i H' _ ⟨_, _, _, _, h, _⟩ => .of h) ?_ ?_
      · rintro i v H' hv ⟨vs, hDv, hpd, e, hF', hN'⟩
        obtain ⟨x, hx, rfl⟩ := map_at hv
        have hxb : x < b.length := mo.lt x (List.mem_of_getElem? hx)
        obtain ⟨u, hu, a, ps, rfl, ha, hps⟩ := Paired.get hls (mvs_lt hxb)
        have plen : ps.length = (mvs b x).length := Paired.len hps
        have five := (fb.ok hxb).few
        refine ⟨rfl, yes ?_⟩
        refine ⟨_, rfl, _, rfl, m, _, _, _, rfl, rfl, e.frz (by simp) hm, atI_nat hu, a, rfl, ⟨_, e.tup Lsts.nil ha⟩, fun D2 hD2 => ?_⟩
        have hD2H : H D2 = none := e.free hD2
        have n1 : D ≠ D2 := ne_of_none hDv hD2
        have n2 : f ≠ D2 := ne_of_none hF' hD2
        refine lc_tup (K := K) (a := a) (xs := ps.map V.ref) (fun k H2 => ∃ qs : List Addr, H2 D2 = some (.lst (qs.map V.ref)) ∧ Paired (MvV K H2) qs (((mvs b x).take k).map fun p => (p.1, F.idxOf p.2)) ∧ Ext [] H' H2) ⟨[], upd_same, .nil, .new hD2⟩ (fun k H2 _ ⟨_, _, _, e2⟩ => (e.trans e2).tup Lsts.nil ha) ?_ ?_
        · rintro k v H2 hv ⟨qs, hq, hqp, e2⟩
          obtain ⟨c, hc, rfl⟩ := map_at hv
          obtain ⟨p, hp, hcp⟩ := Paired.get' hps hc
          have hcp := hcp.ext0 (e.trans e2)
          have hN2 := e2.at hN' (by simp)
          have pin : p.2 ∈ F := mo.cl x (List.mem_of_getElem? hx) p (List.mem_of_getElem? hp)
          refine ⟨c, _, rfl, hcp, rfl, _, _, rfl, _, _, rfl, rfl, rfl, yes ?_⟩
          refine ⟨_, rfl, _, rfl, _, rfl, N, nV (F.idxOf p.2), rfl, by rw [← placesK_val mo.nd pin]; exact DGet.k (k := kN p.2) hN2, ?_⟩
          refine ⟨(by show 2 ≤ sizeLine; decide), fun t ht => ?_⟩
          have tD2 : D2 ≠ t := ne_of_none hq ht
          have e3 : Ext [] H2 (upd H2 t (.tup [.int p.1, .int (F.idxOf p.2 : Nat)])) := .new ht
          refine ⟨_, e3.at hq (by simp), ?_, qs ++ [t], by rw [upd_same, List.map_append]; rfl, ?_, (e2.trans e3).put hD2⟩
          · rw [List.length_map, Paired.len hqp, List.length_map, List.length_take]
            exact small1000 (by omega)
          · rw [List.take_add_one, hp, List.map_append]
            refine Paired.snoc ?_ (Paired.imp hqp fun _ _ z => (z.ext0 e3).put (e3.at hq (by simp)))
            exact MvV.put (m := (p.1, F.idxOf p.2)) (.of upd_same) (e3.at hq (by simp))
        · rintro H2 ⟨qs, hq, hqp, e2⟩
          have ek : (mvs b x).take (ps.map V.ref).length = mvs b x := List.take_of_length_le (by rw [List.length_map, plen]; exact Nat.le_refl _)
          rw [ek] at hqp
          refine ⟨D2, _, rfl, .of hq, fun t H3 ht hH3 => ?_⟩
          obtain ⟨o, od, rfl⟩ := hH3
          have e3 : Ext [] H2 (upd H2 t (.frz o (.tup (qs.map V.ref)))) := .new ht
          have e4 := e2.trans e3
          refine ⟨vs, e4.at hDv (by simp), ?_, vs ++ [.ref t], upd_same, ?_, (e.trans e4).put hDH, by rw [upd_ne fD]; exact e4.at hF' (by simp), by rw [upd_ne ND]; exact e4.at hN' (by simp)⟩
          · rw [Paired.len hpd, List.length_take]
            exact small1000 (by rw [rename_len]; omega)
          · have hr' : (rename b F)[i]? = some ((mvs b x).map fun p => (p.1, F.idxOf p.2)) := by
              unfold rename
              rw [List.getElem?_map, hx]
              rfl
            rw [List.take_add_one, hr']
            have hDe := e4.at hDv (by simp)
            refine Paired.snoc ?_ (Paired.imp hpd fun _ _ z => (z.ext0 e4).put hDe)
            exact StV.put ⟨t, qs, rfl, ⟨o, upd_same, od⟩, Paired.imp hqp fun _ _ z => z.ext0 e3⟩ hDe
      · rintro H' ⟨vs, hDv, hpd, e, hF', _⟩
        refine ⟨D, vs, rfl, .of hDv, fun t H3 ht hH3 => ?_⟩
        obtain ⟨o, od, rfl⟩ := hH3
        have e3 : Ext [] H' (upd H' t (.frz o (.tup vs))) := .new ht
        have ek : (rename b F).take (F.map nV).length = rename b F := List.take_of_length_le (by rw [List.length_map, rename_len]; exact Nat.le_refl _)
        rw [ek, mo.eq] at hpd
        exact q _ _ ⟨t, vs, rfl, .inl (.inr ⟨o, upd_same⟩), Paired.imp hpd fun _ _ z => z.ext0 e3⟩ (e.trans e3)
end
end Nv
set_option Elab.async false
set_option linter.all false
set_option maxRecDepth 100000
namespace Nv
open PySem PySem.Spec PyProof.Rows L2
section
variable {P : Program} {w : World} {K : PySem.W.Frag} {mg : Str → Option Value} {base : Heap}
/-! ### the fewest states -/
/-- a state as a key -/
def nkS (s : State) : NestedKey := .tup (s.map fun p => .tup [.num p.1, .num p.2])
theorem nkL_inj : ∀ {s t : State}, s.map (fun p => NestedKey.tup [.num p.1, .num p.2]) = t.map (fun p => NestedKey.tup [.num p.1, .num p.2]) → s = t
  | [], [], _ => rfl
  | [], _ :: _, h => nomatch h
  | _ :: _, [], h => nomatch h
  | p :: s, q :: t, h => by
    rw [List.map_cons, List.map_cons] at h
    injection h with h1 h2
    rw [nkL_inj h2]
    injection h1 with h1
    injection h1 with h3 h4
    injection h4 with h4 _
    injection h3 with h3
    injection h4 with h4
    have e : p = q := by
      obtain ⟨p1, p2⟩ := p
      obtain ⟨q1, q2⟩ := q
      have h3 : (p1 : Int) = q1 := h3
      have h4 : (p2 : Int) = q2 := h4
      have e1 : p1 = q1 := by omega
      have e2 : p2 = q2 := by omega
      rw [e1, e2]
    rw [e]
theorem nkS_inj {s t : State} (h : nkS s = nkS t) : s = t := by
  unfold nkS at h
  injection h with h
  exact nkL_inj h
theorem nkS_depth (s : State) : (nkS s).depth ≤ 8 := by
  have : ∀ s : State, NestedKey.depthAll (s.map fun p => NestedKey.tup [.num p.1, .num p.2]) ≤ 1 := by
    intro s
    induction s with
    | nil => exact Nat.zero_le _
    | cons p s ih =>
      rw [List.map_cons]
      show max (NestedKey.depth (.tup [.num p.1, .num p.2])) _ ≤ 1
      refine Nat.max_le.mpr ⟨?_, ih⟩
      show max 0 (max 0 0) + 1 ≤ 1
      decide
  have := this s
  show NestedKey.depthAll _ + 1 ≤ 8
  omega
theorem StV.key {K : PySem.W.Frag} {H : Hp} {v : V} {s : State} (h : StV K H v s) : NkV K H (nkS s) v := by
  obtain ⟨a, ps, rfl, ha, hps⟩ := h
  refine .tup ha.sq ?_
  clear ha
  induction hps with
  | nil => exact .nil
  | cons r _ ih => exact .cons (.tup r (.cons (.num _) (.cons (.num _) .nil))) ih
/-- the entries stand for these states, the values are their places -/
def EntsOk (K : PySem.W.Frag) (H : Hp) (kvs : List Ent) (F : List State) : Prop := Paired (fun (e : Ent) s => e.1 = nkS s ∧ StV K H (.ref e.2.1) s) kvs F ∧ kvs.map (·.2.2) = (List.range F.length).map nV
theorem EntsOk.nil {K : PySem.W.Frag} {H : Hp} : EntsOk K H [] [] := ⟨.nil, rfl⟩
theorem EntsOk.ext {K : PySem.W.Frag} {H H' : Hp} {L : List Addr} {kvs : List Ent} {F : List State} (h : EntsOk K H kvs F) (e : Ext L H H') (l : Lsts L H) : EntsOk K H' kvs F := ⟨Paired.imp h.1 fun _ _ z => ⟨z.1, z.2.ext e l⟩, h.2⟩
theorem EntsOk.len {K : PySem.W.Frag} {H : Hp} {kvs : List Ent} {F : List State} (h : EntsOk K H kvs F) : kvs.length = F.length := Paired.len h.1
theorem EntsOk.keys {K : PySem.W.Frag} {H : Hp} {kvs : List Ent} {F : List State} (h : EntsOk K H kvs F) : KeysIn K H kvs := by
  have key : ∀ {kvs : List Ent} {F : List State}, Paired (fun (e : Ent) s => e.1 = nkS s ∧ StV K H (.ref e.2.1) s) kvs F → KeysIn K H kvs := by
    intro kvs F h
    induction h with
    | nil => exact fun e he => nomatch he
    | cons r _ ih =>
      intro e he
      rcases List.mem_cons.mp he with rfl | he
      · rw [r.1]
        exact ⟨r.2.key, nkS_depth _⟩
      · exact ih e he
  exact key h.1
theorem EntsOk.push {K : PySem.W.Frag} {H : Hp} {kvs : List Ent} {F : List State} {b : Addr} {s : State} (h : EntsOk K H kvs F) (hs : StV K H (.ref b) s) : EntsOk K H (kvs ++ [(nkS s, b, nV kvs.length)]) (F ++ [s]) :=
  ⟨Paired.snoc ⟨rfl, hs⟩ h.1, by rw [List.map_append, h.2, List.length_append, List.length_singleton, List.range_succ, List.map_append, h.len]; rfl⟩
theorem EntsOk.val {K : PySem.W.Frag} {H : Hp} {kvs : List Ent} {F : List State} (h : EntsOk K H kvs F) (s : State) : valN kvs (nkS s) = if s ∈ F then some (nV (plc F s)) else none := by
  have key : ∀ (kvs : List Ent) (F : List State) (n : Nat), Paired (fun (e : Ent) s => e.1 = nkS s ∧ StV K H (.ref e.2.1) s) kvs F → kvs.map (·.2.2) = (List.range' n F.length).map nV → valN kvs (nkS s) = if s ∈ F then some (nV (n + plc F s)) else none := by
    intro kvs F n h
    induction h generalizing n with
    | nil => exact fun _ => rfl
    | @cons e t es ts r _ ih =>
      intro hv
      rw [List.map_cons, List.length_cons, List.range'_succ, List.map_cons] at hv
      injection hv with h1 h2
      by_cases c : t = s
      · subst c
        have hc : valN (e :: es) (nkS t) = some e.2.2 := by simp [valN, List.find?_cons, r.1]
        rw [hc, h1, if_pos (List.mem_cons_self ..), plc_self]
        rfl
      · have hne : ¬ e.1 = nkS s := fun z => c (nkS_inj (r.1.symm.trans z))
        have hc : valN (e :: es) (nkS s) = valN es (nkS s) := by simp [valN, List.find?_cons, hne]
        rw [hc, ih (n + 1) h2]
        have e2 : plc (t :: ts) s = plc ts s + 1 := plc_ne c
        by_cases hm : s ∈ ts
        · rw [if_pos hm, if_pos (List.mem_cons_of_mem _ hm), e2]
          congr 2
          omega
        · rw [if_neg hm, if_neg (fun z => (List.mem_cons.mp z).elim (fun y => c y.symm) hm)]
  have := key kvs F 0 h.1 (by rw [h.2, List.range_eq_range'])
  rw [this, Nat.zero_add]
theorem sc_least_states : FnScope ["states", "kinds", "many", "signs", "numbers", "sign", "moves", "message", "to"] ["states"] (defScope s_least_states) := ⟨rfl, rfl, rfl, by decide +kernel, rfl, by decide +kernel, by decide +kernel⟩
def sp_least_states (K : PySem.W.Frag) : Sp := fun vs H Q _ => ∃ (v : V) (b : Book), vs = [v] ∧ BkV K H v b ∧ FormB b ∧ ∀ (ks : List Nat) (m : Nat) (v' : V) (H' : Hp), LeastB b ks m → BkV K H' v' (rename (firsts (signsB b ks)) (ordB (firsts (signsB b ks)))) → Ext [] H H' → Q v' H'
theorem ok_least_states (T : Tx K mg) : FnOk P w K mg base CX0 4 T.least_states.f T.least_states.fd ["states"] (sp_least_states K) := by
  refine T.least_states.F.ok sc_least_states (fun vs H Q E h => ?_) (fun cdv A outer s H vs Q E hr h => ?_)
  · obtain ⟨v, b, rfl, _⟩ := h; rfl
  · obtain ⟨v, b, rfl, hb, fb, q⟩ := h
    obtain ⟨a, ls, rfl, ha, hls⟩ := id hb
    have llen := Paired.len hls
    have h8 := fb.eight
    have h1 := fb.one
    refine ⟨_, (pss_cons (ps_set (i := 1) sc_least_states.nd rfl (.inr rfl) (pe_op op_rep (pe_lst (pa_cons pe_int pa_nil)) (pe_callB call_len_seq (by rfl) T.n_len PySem.boot_len (pa_cons (pv 0) pa_nil))))
      (pss_cons (ps_set (i := 2) sc_least_states.nd rfl (.inl rfl) pe_int)
      (pss_one (ps_while PassesOwn.never (pt_val pe_bl)
        (pss_cons (ps_setLc (i := 3) (own := [("moves", 6)]) rfl sc_least_states.nd rfl rfl (sw_true rfl rfl rfl (by decide +kernel)) (pi_tup (pv 0)) (blkOk_by (own := [("moves", 6)]) (N := ["states", "kinds", "many", "signs", "numbers", "sign", "moves", "message", "to"]) (sc := defScope s_least_states) (by decide +kernel)) (fun _ _ _ _ _ => (pg_name (i := 6) sc_least_states.nd rfl (.inl rfl))) (fun _ _ _ _ _ => pts_nil) (fun _ _ _ _ _ => (pe_callTy (call_tupZK K) (by rfl) T.n_tuple (by decide +kernel) (pa_cons (pe_lc (own := [("message", 7), ("to", 8)]) rfl sc_least_states.nd (pi_tupK K (pv 6)) (blkOk_by (own := [("message", 7), ("to", 8)]) (by kernel_rfl)) (fun _ _ _ _ _ => (pg_tupK (n := 2) K rfl (pgs_cons (pg_name (i := 7) sc_least_states.nd rfl (.inl rfl)) (pgs_cons (pg_name (i := 8) sc_least_states.nd rfl (.inl rfl)) pgs_nil)))) (fun _ _ _ _ _ => pts_nil) (fun _ _ _ _ _ => (pe_tup (pa_cons (pv 7) (pa_cons (pe_ix (ix_listK K) (pv 1) (pv 8) (fun _ _ => rfl)) pa_nil))))) pa_nil))))
        (pss_cons (ps_set (i := 4) sc_least_states.nd rfl (.inr rfl) (pe_dnewN w))
        (pss_cons (ps_for PassesOwn.never rfl (pi_list (pv 3)) (pg_name (i := 5) sc_least_states.nd rfl (.inl rfl))
          (pss_one (ps_if (pt_cmp (pc_dnotinN K w (hn_of hr) (pv 5) (pv 4)))
            (pss_one (ps_dputN K w (hn_of hr) (pv 4) (pv 5) (pe_callB (call_lenN K w) (by rfl) T.n_len PySem.boot_len (pa_cons (pv 4) pa_nil)) rfl))
            pss_nil)))
        (pss_cons (ps_if (pt_cmpR op_eq (pe_callB (call_lenN K w) (by rfl) T.n_len PySem.boot_len (pa_cons (pv 4) pa_nil)) (pv 2) (nomark _))
          (pss_one (ps_ret (pe_call (ok_by_meeting T) (hr.mono (by decide)) (by rfl) T.by_meeting.g T.by_meeting.F.kp T.by_meeting.b .nil pass0 (pa_cons (pe_callTy (call_list_dN rfl w) (by rfl) T.n_list (by decide +kernel) (pa_cons (pv 4) pa_nil)) pa_nil))))
          pss_nil)
        (pss_cons (ps_set (i := 1) sc_least_states.nd rfl (.inr rfl) (pe_lc (own := [("sign", 5)]) rfl sc_least_states.nd (pi_list (pv 3)) (blkOk_by (own := [("sign", 5)]) (N := ["states", "kinds", "many", "signs", "numbers", "sign", "moves", "message", "to"]) (sc := defScope s_least_states) (by decide +kernel)) (fun _ _ _ _ _ => (pg_name (i := 5) sc_least_states.nd rfl (.inl rfl))) (fun _ _ _ _ _ => pts_nil) (fun _ _ _ _ _ => (pe_dgetN K w (hn_of hr) (pv 4) (pv 5) (fun _ _ => rfl)))))
        (pss_one (ps_set (i := 2) sc_least_states.nd rfl (.inl rfl) (pe_callB (call_lenN K w) (by rfl) T.n_len PySem.boot_len (pa_cons (pv 4) pa_nil))))))))))))), ?_⟩
    -- kinds = [0] * len(states)
    refine ⟨(by show 1 ≤ sizeLine; decide), fun x hx => ?_⟩
    have e0 : Ext [] H (upd H x (.lst [.int 0])) := .new hx
    refine ⟨_, rfl, a, _, rfl, .inr (e0.tup Lsts.nil ha), x, _, _, rfl, rfl, upd_same, by omega, by omega, ?_, fun ro hro => ?_⟩
    · rw [forTo llen]
      exact Nat.le_of_lt (small1000 (by show 1 * b.length ≤ 1000; omega))
    rw [forTo llen]
    have e1 := e0.trans (Ext.new (L := []) (o := .lst (List.replicate b.length [V.int 0]).flatten) hro)
    have hr1 : upd (upd H x (.lst [.int 0])) ro (.lst (List.replicate b.length [V.int 0]).flatten) ro = some (.lst ((List.replicate b.length 0).map nV)) := by
      rw [upd_same, List.map_replicate]
      congr 2
      clear hro e1 llen h8 h1 fb hb q hls ha
      induction b.length with
      | zero => rfl
      | succ n ih => rw [List.replicate_succ, List.flatten_cons, ih, List.replicate_succ]; rfl
    generalize upd (upd H x (.lst [.int 0])) ro (.lst (List.replicate b.length [V.int 0]).flatten) = H1 at *
    -- the rounds
    refine ⟨fun m σ H' => ∃ (ks : List Nat) (many : Nat) (ko : Addr) (y3 y4 y5 : Option V), σ = [some (.ref a), some (.ref ko), some (.int many), y3, y4, y5, none, none, none] ∧ m = b.length - many ∧ KInv b ks many ∧ H' ko = some (.lst (ks.map nV)) ∧ Ext [] H H',
      ⟨_, List.replicate b.length 0, 1, ro, _, _, _, rfl, rfl, .first h1, hr1, e1⟩, ?_⟩
    rintro m σ H2 ⟨ks, many, ko, y3, y4, y5, rfl, rfl, ki, hK, e⟩
    refine ⟨true, rfl, iteT ⟨fun σ H' => ∃ (ks' : List Nat) (many' : Nat) (ko : Addr) (y3 y4 y5 : Option V), σ = [some (.ref a), some (.ref ko), some (.int many'), y3, y4, y5, none, none, none] ∧ b.length - many' < b.length - many ∧ KInv b ks' many' ∧ H' ko = some (.lst (ks'.map nV)) ∧ Ext [] H H', ?_, ?_⟩⟩
    · rintro σ' H' ⟨ks', many', ko, y3, y4, y5, rfl, hlt, h2, h3, h4⟩
      exact ⟨_, hlt, ks', many', ko, _, _, _, rfl, rfl, h2, h3, h4⟩
    have klen := ki.len
    -- signs
    refine ⟨_, rfl, a, rfl, ⟨_, e.tup Lsts.nil ha⟩, fun so hso => ?_⟩
    have kso : ko ≠ so := ne_of_none hK hso
    have hsoH : H so = none := e.free hso
    refine lc_tup (K := K) (a := a) (xs := ls) (fun i H' => ∃ vs : List V, H' so = some (.lst vs) ∧ Paired (StV K H') vs ((signsB b ks).take i) ∧ Ext [] H2 H') ⟨[], upd_same, .nil, .new hso⟩ (fun i H' _ ⟨_, _, _, z⟩ => (e.trans z).tup Lsts.nil ha) ?_ ?_
    · rintro i v H' hv ⟨vs, hDv, hpd, e2⟩
      obtain ⟨st, hst, c, ps, rfl, hc, hps⟩ := Paired.get' hls hv
      have hib : i < b.length := (List.getElem?_eq_some_iff.mp hst).1
      rw [mvs_lt hib] at hst
      obtain rfl := Option.some.inj hst
      have plen := Paired.len hps
      have five := (fb.ok hib).few
      have eH := e.trans e2
      have hK2 := e2.at hK (by simp)
      refine ⟨rfl, yes ?_⟩
      refine ⟨_, rfl, c, rfl, ⟨_, eH.tup Lsts.nil hc.sq⟩, fun D2 hD2 => ?_⟩
      have n1 : so ≠ D2 := ne_of_none hDv hD2
      refine lc_tup (K := K) (a := c) (xs := ps.map V.ref) (fun k H3 => ∃ qs : List Addr, H3 D2 = some (.lst (qs.map V.ref)) ∧ Paired (MvV K H3) qs (signB ks ((mvs b i).take k)) ∧ Ext [] H' H3) ⟨[], upd_same, .nil, .new hD2⟩ (fun k H3 _ ⟨_, _, _, z⟩ => (eH.trans z).tup Lsts.nil hc.sq) ?_ ?_
      · rintro k v H3 hv ⟨qs, hq, hqp, e3⟩
        obtain ⟨g, hg, rfl⟩ := map_at hv
        obtain ⟨p, hp, hcp⟩ := Paired.get' hps hg
        have hcp := hcp.ext0 (eH.trans e3)
        have hK3 := e3.at hK2 (by simp)
        have pb : p.2 < b.length := fb.to (List.mem_of_getElem? hp)
        have hat : ks[p.2]? = some (ks.getD p.2 0) := by rw [List.getD_eq_getElem?_getD, List.getElem?_eq_getElem (by omega)]; rfl
        refine ⟨g, _, rfl, hcp, rfl, _, _, rfl, _, _, rfl, rfl, rfl, yes ?_⟩
        refine ⟨_, rfl, _, rfl, _, rfl, ko, _, _, _, rfl, rfl, .of hK3, atI_nat (at_map hat), ?_⟩
        refine ⟨(by show 2 ≤ sizeLine; decide), fun t ht => ?_⟩
        have e4 : Ext [] H3 (upd H3 t (.tup [.int p.1, nV (ks.getD p.2 0)])) := .new ht
        refine ⟨_, e4.at hq (by simp), ?_, qs ++ [t], by rw [upd_same, List.map_append]; rfl, ?_, (e3.trans e4).put hD2⟩
        · rw [List.length_map, Paired.len hqp]
          unfold signB
          rw [List.length_map, List.length_take]
          exact small1000 (by omega)
        · rw [List.take_add_one, hp]
          unfold signB
          rw [List.map_append]
          refine Paired.snoc ?_ (Paired.imp hqp fun _ _ z => (z.ext0 e4).put (e4.at hq (by simp)))
          exact MvV.put (m := (p.1, ks.getD p.2 0)) (.of upd_same) (e4.at hq (by simp))
      · rintro H3 ⟨qs, hq, hqp, e3⟩
        have ek : (mvs b i).take (ps.map V.ref).length = mvs b i := List.take_of_length_le (by rw [List.length_map, plen]; exact Nat.le_refl _)
        rw [ek] at hqp
        refine ⟨D2, _, rfl, .of hq, fun t H4 ht hH4 => ?_⟩
        obtain ⟨o, od, rfl⟩ := hH4
        have e4 : Ext [] H3 (upd H3 t (.frz o (.tup (qs.map V.ref)))) := .new ht
        have e5 := e3.trans e4
        refine ⟨vs, e5.at hDv (by simp), ?_, vs ++ [.ref t], upd_same, ?_, (e2.trans e5).put hso⟩
        · rw [Paired.len hpd, List.length_take, signsB_len]
          exact small1000 (by omega)
        · rw [List.take_add_one, signsB_at hib]
          have hDe := e5.at hDv (by simp)
          refine Paired.snoc ?_ (Paired.imp hpd fun _ _ z => (z.ext0 e5).put hDe)
          exact StV.put ⟨t, qs, rfl, ⟨o, upd_same, od⟩, Paired.imp hqp fun _ _ z => z.ext0 e4⟩ hDe
    rintro H3 ⟨vs, hS, hpd, e2⟩
    rw [llen, List.take_of_length_le (by rw [signsB_len]; exact Nat.le_refl _)] at hpd
    have e3 := e.trans e2
    have hK3 := e2.at hK (by simp)
    have vlen : vs.length = b.length := by rw [Paired.len hpd, signsB_len]
    clear e2 hK hso hsoH kso
    -- numbers = {}
    refine fun N hN => ?_
    have e4 : Ext [] H3 (upd H3 N (dnO w N [])) := .new hN
    have hN4 : upd H3 N (dnO w N []) N = some (dnO w N []) := upd_same
    have hS4 := e4.at hS (by simp)
    have hK4 := e4.at hK3 (by simp)
    have hpd4 := Paired.imp hpd fun _ _ z => z.ext0 e4
    have NH : H3 N = none := hN
    have soN : so ≠ N := ne_of_none hS hN
    have koN : ko ≠ N := ne_of_none hK3 hN
    have oneN : ∀ {H' : Hp} {kvs : List Ent}, H' N = some (dnO w N kvs) → Lsts [N] H' := fun {H' kvs} h a z => ⟨dnO w N kvs, by rw [List.mem_singleton.mp z]; exact h, fun _ q => (nomatch q), fun _ _ q => (nomatch q)⟩
    clear hN
    have e4' := e3.trans e4
    generalize upd H3 N (dnO w N []) = H4 at *
    refine ⟨_, rfl, so, rfl, ⟨_, .of hS4⟩, for_list (K := K) (a := so) (xs := vs) (fun i σ H' => ∃ (kvs : List Ent) (y5 : Option V), σ = [some (.ref a), some (.ref ko), some (.int many), some (.ref so), some (.ref N), y5, none, none, none] ∧ H' N = some (dnO w N kvs) ∧ EntsOk K H' kvs (firsts ((signsB b ks).take i)) ∧ Ext [N] H4 H')
      ⟨[], _, rfl, hN4, .nil, .refl⟩ (fun i σ H' _ ⟨_, _, _, _, _, z⟩ => .of (z.at hS4 (by simpa using soN))) ?_ ?_⟩
    · rintro i v σ H' hv ⟨kvs, y5, rfl, hN', ents, ex⟩
      have lN := oneN hN4
      obtain ⟨st, hst, hsv⟩ := Paired.get' hpd4 hv
      have hsv := hsv.ext ex lN
      obtain ⟨t, ps, rfl, ht, hps⟩ := id hsv
      have hib : i < b.length := by have := (List.getElem?_eq_some_iff.mp hst).1; rwa [signsB_len] at this
      have el := ents.len
      have fl : (firsts ((signsB b ks).take i)).length ≤ 8 := Nat.le_trans (firsts_le _) (by rw [List.length_take, signsB_len]; omega)
      have etk : (signsB b ks).take (i + 1) = (signsB b ks).take i ++ [st] := by rw [List.take_add_one, hst]; rfl
      refine ⟨_, rfl, _, rfl, N, _, rfl, ⟨kvs, nkS st, t, hN', ents.keys, rfl, hsv.key, nkS_depth st, rfl⟩, _, rfl, ?_⟩
      rw [ents.val st]
      by_cases hin : st ∈ firsts ((signsB b ks).take i)
      · rw [if_pos hin]
        refine iteF ⟨kvs, _, rfl, hN', ?_, ex⟩
        rw [etk, firsts_snoc, if_pos hin]
        exact ents
      · rw [if_neg hin]
        refine iteT ⟨_, rfl, N, kvs, rfl, hN', _, rfl, _, rfl, N, _, rfl, ⟨kvs, nkS st, t, hN', ents.keys, rfl, hsv.key, nkS_depth st, by rw [ents.val st, if_neg hin], small1000 (by omega), rfl⟩, ?_⟩
        have ew : Ext [N] H' (upd H' N (dnO w N (kvs ++ [(nkS st, t, nV kvs.length)]))) := .wr (by simp)
        refine ⟨_, _, rfl, upd_same, ?_, ex.trans ew⟩
        rw [etk, firsts_snoc, if_neg hin]
        exact (ents.ext ew (oneN hN')).push (hsv.ext ew (oneN hN'))
    rintro σ H5 ⟨kvs, y5, rfl, hN5, ents, ex⟩
    rw [vlen, List.take_of_length_le (by rw [signsB_len]; exact Nat.le_refl _)] at ents
    have lN := oneN hN4
    have hS5 := ex.at hS4 (by simpa using soN)
    have hpd5 := Paired.imp hpd4 fun _ _ z => z.ext ex lN
    have e5 : Ext [] H H5 := e3.trans (Ext.drop2 e4 ex NH)
    have el := ents.len
    -- if len(numbers) == many
    refine ⟨_, rfl, N, kvs, rfl, hN5, _, rfl, rfl, _, rfl, ?_⟩
    rw [dec_int]
    refine ite2 (fun z => ?_) (fun z => ?_)
    · have z := of_decide_eq_true z
      have stop : (firsts (signsB b ks)).length = many := by omega
      have lb : LeastB b ks many := { ki with stop := stop }
      refine ⟨_, rfl, N, kvs, rfl, hN5, fun p hp => ?_⟩
      have e6 : Ext [] H5 (upd H5 p (.lst (kvs.map fun e => V.ref e.2.1))) := .new hp
      refine ⟨.ref p, firsts (signsB b ks), rfl, ⟨p, _, rfl, .of upd_same, ?_⟩, lb.form fb, fun v' H' h' e' => q ks many v' H' lb h' ((e5.trans e6).trans e')⟩
      have key : ∀ {H' : Hp} {kvs : List Ent} {F : List State}, Paired (fun (e : Ent) s => e.1 = nkS s ∧ StV K H' (.ref e.2.1) s) kvs F → Paired (StW K H') (kvs.map fun e => V.ref e.2.1) F := by
        intro H' kvs F h
        induction h with
        | nil => exact .nil
        | cons r _ ih =>
          obtain ⟨c, ps, ec, h1, h2⟩ := r.2
          exact .cons ⟨c, ps, ec, h1.sq, h2⟩ ih
      exact key (ents.ext e6 Lsts.nil).1
    · have z : ¬ ((kvs.length : Int) = (many : Int)) := fun y => z (decide_eq_true y)
      have ge := ki.ge
      have le : (firsts (signsB b ks)).length ≤ b.length := by have := firsts_le (signsB b ks); rwa [signsB_len] at this
      -- kinds
      refine ⟨_, rfl, so, rfl, ⟨_, .of hS5⟩, fun D hD => ?_⟩
      refine lc_list (K := K) (a := so) (xs := vs) (fun i H' => H' D = some (.lst (((numOf (signsB b ks)).take i).map nV)) ∧ Ext [] H5 H') ⟨upd_same, .new hD⟩ (fun i H' _ ⟨_, z⟩ => .of (z.at hS5 (by simp))) ?_ ?_
      · rintro i v H' hv ⟨hX, ez⟩
        obtain ⟨st, hst, hsv⟩ := Paired.get' hpd5 hv
        have hsv := hsv.ext0 ez
        obtain ⟨t, ps, rfl, ht, hps⟩ := id hsv
        have hib : i < b.length := by have := (List.getElem?_eq_some_iff.mp hst).1; rwa [signsB_len] at this
        have hin : st ∈ firsts (signsB b ks) := mem_firsts.mpr (List.mem_of_getElem? hst)
        have ents' := ents.ext ez Lsts.nil
        refine ⟨rfl, yes ?_⟩
        refine ⟨_, rfl, _, rfl, N, nV (plc (firsts (signsB b ks)) st), rfl, ⟨kvs, nkS st, t, ez.at hN5 (by simp), ents'.keys, rfl, hsv.key, nkS_depth st, by rw [ents'.val st, if_pos hin]⟩, ?_⟩
        refine ⟨_, hX, ?_, ?_, ez.put hD⟩
        · rw [List.length_map, List.length_take, numOf_len, signsB_len]
          exact small1000 (by omega)
        · rw [upd_same, List.take_add_one, numOf_plc hst, List.map_append]
          rfl
      · rintro H6 ⟨hX, ez⟩
        rw [vlen, List.take_of_length_le (by rw [numOf_len, signsB_len]; exact Nat.le_refl _)] at hX
        -- many
        refine ⟨_, rfl, N, kvs, rfl, ez.at hN5 (by simp), ?_⟩
        exact ⟨numOf (signsB b ks), (firsts (signsB b ks)).length, D, _, _, _, by rw [el]; rfl, by omega, ki.next fb, hX, e5.trans ez⟩
end
end Nv
set_option Elab.async false
set_option linter.all false
set_option maxRecDepth 100000
namespace Nv
open PySem PySem.Spec PyProof.Rows L2
section
variable {P : Program} {w : World} {K : PySem.W.Frag} {mg : Str → Option Value} {base : Heap}
/-! ### a turned row of numbers, a pick of a tuple -/
theorem sc_law_turned : FnScope ["pool", "many", "left", "found", "turn"] ["pool", "many"] (defScope s_law_turned) := ⟨rfl, rfl, rfl, by decide +kernel, rfl, by decide +kernel, by decide +kernel⟩
def sp_law_turned : Sp := fun vs H Q _ => ∃ (p l : Addr) (n : Nat), vs = [.ref p, .int n] ∧ PoolAt H p l ∧ n ≤ 8 ∧ ∀ (ms : List Nat) (t : Addr) (H' : Hp), ms.Perm (List.range n) → H' t = some (.lst (ms.map nV)) → H t = none → PoolAt H' p l → Ext [p, l] H H' → Q (.ref t) H'
theorem ok_law_turned (T : Tx K mg) : FnOk P w K mg base CX0 2 T.law_turned.f T.law_turned.fd ["pool", "many"] sp_law_turned := by
  refine T.law_turned.F.ok sc_law_turned (fun vs H Q E h => ?_) (fun cdv A outer s H vs Q E hr h => ?_)
  · obtain ⟨p, l, n, rfl, _⟩ := h; rfl
  · obtain ⟨p, l, top, rfl, P2, h8, q⟩ := h
    refine ⟨_, (pss_cons (ps_par (i := 2) (j := 3) (by rfl) sc_law_turned.nd rfl rfl (by decide) rfl rfl (pa_cons (pe_listRg rfl (by rfl) T.n_list (prg_1 (by rfl) T.n_range (pv 1))) (pa_cons (pe_lst pa_nil) pa_nil)) (by rfl))
      (pss_cons (ps_for PassesOwn.never rfl (pi_range1 (by rfl) T.n_range (pa_cons (pv 1) pa_nil)) (pg_name (i := 4) sc_law_turned.nd rfl (.inl rfl))
        (pss_one (ps_expr (pe_bm PySem.F.plainAttrs_list PySem.F.slot_list_append PySem.F.type_list_append mt_append (pv 3) (pa_cons (pe_bm PySem.F.plainAttrs_list PySem.F.slot_list_pop PySem.F.type_list_pop mt_popAt (pv 2) (pa_cons (pe_call (ok_law_draw T) (hr.mono (by decide)) (by rfl) T.law_draw.g T.law_draw.F.kp T.law_draw.b .nil pass0 (pa_cons (pv 0) (pa_cons (pe_callB call_len_seq (by rfl) T.n_len PySem.boot_len (pa_cons (pv 2) pa_nil)) pa_nil))) pa_nil)) pa_nil)))))
      (pss_one (ps_ret (pv 3))))), ?_⟩
    refine ⟨_, rfl, _, rfl, RgOk.of_le (by omega) (by omega) (by omega) (by omega), fun lf hlf => ⟨Nat.zero_le _, fun fd hfd => ⟨_, _, rfl, ?_⟩⟩⟩
    rw [rgV_nV] at hfd ⊢
    have e3 : Ext [] H (upd H lf (.lst ((List.range top).map nV))) := .new hlf
    have e4 := e3.trans (Ext.new (L := []) (o := .lst []) hfd)
    have nlf : fd ≠ lf := fun z => by rw [z, upd_same] at hfd; cases hfd
    obtain ⟨n1, n2⟩ := P2.off hlf
    have hfd2 := e3.free hfd
    obtain ⟨n3, n4⟩ := P2.off hfd2
    refine ⟨_, rfl, _, rfl, by omega, by omega, for_range (lo := 0) (n := _) (fun i σ H' => ∃ (L F : List Nat) (y : Option V), σ = [some (.ref p), some (.int top), some (.ref lf), some (.ref fd), y] ∧ H' lf = some (.lst (L.map nV)) ∧ H' fd = some (.lst (F.map nV)) ∧ (F ++ L).Perm (List.range top) ∧ F.length = i ∧ PoolAt H' p l ∧ Ext [p, l] H H')
      ⟨List.range top, [], _, rfl, by rw [upd_ne nlf.symm, upd_same], upd_same, .refl _, rfl, P2.ext0 e4, e4.weak⟩ ?_ ?_⟩
    · rintro i σ H' hi ⟨L, F, y, rfl, hL, hF, hperm, hFl, P', e'⟩
      have hi : i < top := by have : ((top : Int)).toNat = top := Int.toNat_natCast _; omega
      have tot : F.length + L.length = top := by have := hperm.length_eq; simpa using this
      have Lpos : 0 < L.length := by omega
      refine ⟨_, rfl, .inl ⟨rfl, _, .of hF⟩, _, rfl, .inl ⟨rfl, _, .of hL⟩, _, rfl, _, rfl, lf, _, rfl, .inl (.of hL), p, l, _, rfl, P', by rw [List.length_map]; omega, by rw [List.length_map]; omega, fun k H3 k0 k1 P3 e3' => ?_⟩
      rw [List.length_map] at k1
      obtain ⟨k, rfl⟩ : ∃ j : Nat, k = (j : Int) := ⟨k.toNat, by omega⟩
      have hk : k < L.length := by omega
      have hL3 := e3' _ _ (off2 n1 n2) hL
      have hF3 := e3' _ _ (off2 n3 n4) hF
      have hy : L[k]? = some L[k] := List.getElem?_eq_getElem hk
      generalize L[k] = y at hy
      refine ⟨lf, _, _, k, nV y, rfl, rfl, hL3, by omega, by omega, by rw [List.length_map]; exact seqAt hk, at_map hy, ?_⟩
      have el : (L.map nV).eraseIdx k = (L.eraseIdx k).map nV := eraseIdx_nV nV L k
      rw [el]
      have hF4 : upd H3 lf (.lst ((L.eraseIdx k).map nV)) fd = some (.lst (F.map nV)) := by rw [upd_ne nlf]; exact hF3
      refine ⟨fd, _, _, rfl, rfl, hF4, by rw [List.length_map]; exact small1000 (by omega), L.eraseIdx k, F ++ [y], _, rfl, by rw [upd_ne nlf.symm, upd_same], ?_, ?_, ?_, ?_, ?_⟩
      · rw [upd_same, List.map_append]; rfl
      · rw [List.append_assoc]
        exact (List.Perm.append_left F (erase_perm L k y hy)).trans hperm
      · rw [List.length_append, hFl]; rfl
      · refine P3.ext (L := [lf, fd]) ((Ext.wr (by simp)).trans (.wr (by simp))) ?_ ?_
        · simp [n1.symm, n3.symm]
        · simp [n2.symm, n4.symm]
      · exact ((e'.trans e3').put' hlf).put' hfd2
    · rintro σ H' ⟨L, F, y, rfl, hL, hF, hperm, hFl, P', e'⟩
      rw [Int.toNat_natCast] at hFl
      have tot : F.length + L.length = top := by have := hperm.length_eq; simpa using this
      have hL0 : L = [] := List.eq_nil_of_length_eq_zero (by omega)
      rw [hL0, List.append_nil] at hperm
      exact ⟨_, rfl, q F fd H' hperm hF hfd2 P' e'⟩
end
end Nv
set_option Elab.async false
set_option linter.all false
set_option maxRecDepth 100000
namespace Nv
open PySem PySem.Spec PyProof.Rows L2
section
variable {P : Program} {w : World} {K : PySem.W.Frag} {mg : Str → Option Value} {base : Heap}
/-! ### a book by other numbers, and with states that no row comes to -/
/-- the rows of states, put at the numbers N -/
def putAt (N : List Nat) (rows : List State) : Book := (List.range N.length).map fun x => rows.getD (N.idxOf x) []
theorem putAt_len {N : List Nat} {rows : List State} : (putAt N rows).length = N.length := by simp [putAt]
theorem putAt_at {N : List Nat} {rows : List State} (nd : N.Nodup) {s x : Nat} (h : N[s]? = some x) (hx : x < N.length) : mvs (putAt N rows) x = rows.getD s [] := by
  refine mvs_of ?_
  unfold putAt
  rw [List.getElem?_map, List.getElem?_range hx]
  show some (rows.getD (N.idxOf x) []) = _
  rw [idx_of nd h]
/-- the moves of b, by the numbers N -/
def mvN (N : List Nat) (s : State) : State := s.map fun p => (p.1, N.getD p.2 0)
structure NumsOk (N : List Nat) (n : Nat) : Prop where
  perm : N.Perm (List.range n)
  zero : N[0]? = some 0
theorem NumsOk.nd {N : List Nat} {n : Nat} (h : NumsOk N n) : N.Nodup := h.perm.nodup_iff.mpr List.nodup_range
theorem NumsOk.len {N : List Nat} {n : Nat} (h : NumsOk N n) : N.length = n := by simpa using h.perm.length_eq
theorem NumsOk.lt {N : List Nat} {n : Nat} (h : NumsOk N n) {x : Nat} (hx : x ∈ N) : x < n := List.mem_range.mp (h.perm.mem_iff.mp hx)
theorem NumsOk.at_ {N : List Nat} {n : Nat} (h : NumsOk N n) {s : Nat} (hs : s < n) : N[s]? = some (N.getD s 0) := by
  have : s < N.length := by rw [h.len]; exact hs
  rw [List.getD_eq_getElem?_getD, List.getElem?_eq_getElem this]
  rfl
theorem NumsOk.ltD {N : List Nat} {n : Nat} (h : NumsOk N n) {s : Nat} (hs : s < n) : N.getD s 0 < n := h.lt (List.mem_of_getElem? (h.at_ hs))
/-- c is b by the numbers N; its other states come behind -/
structure PutB (b : Book) (N : List Nat) (R : List State) : Prop where
  n : NumsOk N (b.length + R.length)
  r : ∀ s ∈ R, StOk (b.length + R.length) s
theorem mvN_ok {n m : Nat} {N : List Nat} {s : State} (hN : NumsOk N m) (hn : n ≤ m) (h : StOk n s) : StOk m (mvN N s) := by
  refine ⟨by unfold mvN; rw [List.length_map]; exact h.few, ?_, fun p hp => ?_, fun p hp => ?_⟩
  · unfold mvN
    rw [List.map_map]
    exact h.rise
  · obtain ⟨q, hq, rfl⟩ := List.mem_map.mp hp
    exact h.msg q hq
  · obtain ⟨q, hq, rfl⟩ := List.mem_map.mp hp
    have := h.to q hq
    exact hN.ltD (by omega)
def putB (b : Book) (N : List Nat) (R : List State) : Book := putAt N (b.map (mvN N) ++ R)
theorem putB_len {b : Book} {N : List Nat} {R : List State} (h : PutB b N R) : (putB b N R).length = b.length + R.length := by rw [putB, putAt_len, h.n.len]
theorem putB_at {b : Book} {N : List Nat} {R : List State} (h : PutB b N R) {s x : Nat} (hs : s < b.length) (hx : N[s]? = some x) : mvs (putB b N R) x = mvN N (mvs b s) := by
  have hl := h.n.lt (List.mem_of_getElem? hx)
  unfold putB
  rw [putAt_at h.n.nd hx (by rw [h.n.len]; exact hl), List.getD_eq_getElem?_getD, List.getElem?_append_left (by rw [List.length_map]; exact hs), List.getElem?_map, mvs_lt hs]
  rfl
theorem putB_form {b : Book} {N : List Nat} {R : List State} (fb : FormB b) (h : PutB b N R) (h8 : b.length + R.length ≤ 8) : FormB (putB b N R) := by
  have hl := putB_len h
  refine ⟨by rw [hl]; have := fb.one; omega, by rw [hl]; exact h8, fun s hs => ?_⟩
  rw [hl]
  obtain ⟨x, hx, rfl⟩ := List.mem_map.mp hs
  have hx := List.mem_range.mp hx
  by_cases hi : N.idxOf x < (b.map (mvN N) ++ R).length
  · rw [List.getD_eq_getElem?_getD, List.getElem?_eq_getElem hi]
    show StOk _ (b.map (mvN N) ++ R)[N.idxOf x]
    rcases List.mem_append.mp (List.getElem_mem hi) with hm | hm
    · obtain ⟨t, ht, e⟩ := List.mem_map.mp hm
      rw [← e]
      exact mvN_ok h.n (by omega) (fb.st t ht)
    · exact h.r _ hm
  · rw [List.getD_eq_getElem?_getD, List.getElem?_eq_none (by omega)]
    exact ⟨Nat.zero_le _, .nil, (fun p hp => nomatch hp), fun p hp => nomatch hp⟩
theorem putB_rch {b : Book} {N : List Nat} {R : List State} (ok : OkB b) (h : PutB b N R) (x : Nat) : Rch (putB b N R) x ↔ ∃ s, s < b.length ∧ N[s]? = some x := by
  have fb := ok.toFormB
  constructor
  · intro hr
    induction hr with
    | zero => exact ⟨0, ok.one, h.n.zero⟩
    | step _ hp ih =>
      obtain ⟨s, hs, e⟩ := ih
      rw [putB_at h hs e] at hp
      obtain ⟨q, hq, rfl⟩ := List.mem_map.mp hp
      have := fb.to hq
      exact ⟨q.2, this, h.n.at_ (by omega)⟩
  · rintro ⟨s, hs, e⟩
    have hr := ok.reach s hs
    have : ∀ s, Rch b s → s < b.length ∧ Rch (putB b N R) (N.getD s 0) := by
      intro s hr
      induction hr with
      | zero =>
        refine ⟨ok.one, ?_⟩
        have z : N.getD 0 0 = 0 := by
          rw [List.getD_eq_getElem?_getD, h.n.zero]
          rfl
        rw [z]
        exact .zero
      | @step s p _ hp ih =>
        obtain ⟨h1, h2⟩ := ih
        have hm : (p.1, N.getD p.2 0) ∈ mvs (putB b N R) (N.getD s 0) := by
          rw [putB_at h h1 (h.n.at_ (by omega))]
          exact List.mem_map.mpr ⟨p, hp, rfl⟩
        exact ⟨fb.to hp, Rch.step h2 hm⟩
    have := (this s hr).2
    have e2 := h.n.at_ (s := s) (by omega)
    rw [e] at e2
    rw [← Option.some.inj e2] at this
    exact this
/-- all states of b by other numbers: again a book -/
theorem putB_okB {b : Book} {N : List Nat} (ok : OkB b) (h : PutB b N []) : OkB (putB b N []) := by
  have hl := putB_len h
  have h8 := ok.eight
  refine { putB_form ok.toFormB h (by simpa using h8) with reach := fun x hx => ?_ }
  rw [putB_rch ok h]
  rw [hl] at hx
  have hm : x ∈ N := h.n.perm.mem_iff.mpr (List.mem_range.mpr hx)
  obtain ⟨s, hs, e⟩ := List.mem_iff_getElem.mp hm
  have := h.n.len
  exact ⟨s, by simpa [this] using hs, by rw [List.getElem?_eq_getElem hs, e]⟩
end
end Nv
set_option Elab.async false
set_option linter.all false
set_option maxRecDepth 100000
namespace Nv
open PySem PySem.Spec PyProof.Rows L2
section
variable {P : Program} {w : World} {K : PySem.W.Frag} {mg : Str → Option Value} {base : Heap}
/-! ### the law's books by other numbers -/
theorem cat0 (ms : List Nat) : [V.int 0] ++ (ms.map fun m => nV (1 + m)) = ((0 :: ms.map (1 + ·)).map nV) := by
  rw [List.map_cons, List.map_map]
  rfl
theorem nums_of {ms : List Nat} {n : Nat} (h : ms.Perm (List.range n)) : NumsOk (0 :: ms.map (1 + ·)) (n + 1) := by
  refine ⟨?_, rfl⟩
  have e : List.range (n + 1) = 0 :: (List.range n).map (1 + ·) := by
    rw [List.range_succ_eq_map]
    congr 1
    refine List.map_congr_left fun x _ => ?_
    show x + 1 = 1 + x
    omega
  rw [e]
  exact (h.map _).cons 0
/-- a list in which the rows of states stand at the numbers N -/
def FillR (K : PySem.W.Frag) (H : Hp) (fd : Addr) (N : List Nat) (rows : List State) : Prop := ∃ xs : List V, H fd = some (.lst xs) ∧ xs.length = N.length ∧ ∀ (s : Nat) (r : State) (x : Nat), rows[s]? = some r → N[s]? = some x → ∃ v, xs[x]? = some v ∧ StV K H v r
theorem FillR.ext {K : PySem.W.Frag} {H H' : Hp} {fd : Addr} {N : List Nat} {rows : List State} {L : List Addr} (h : FillR K H fd N rows) (e : Ext L H H') (l : Lsts L H) (n : fd ∉ L) : FillR K H' fd N rows := by
  obtain ⟨xs, h1, h2, h3⟩ := h
  exact ⟨xs, e.at h1 n, h2, fun s r x a b => by
    obtain ⟨v, c, d⟩ := h3 s r x a b
    exact ⟨v, c, d.ext e l⟩⟩
theorem FillR.put {K : PySem.W.Frag} {H : Hp} {fd : Addr} {N : List Nat} {rows : List State} {xs : List V} {r : State} {v : V} {x : Nat} (h1 : H fd = some (.lst xs)) (h2 : xs.length = N.length) (h3 : ∀ (s : Nat) (r : State) (x : Nat), rows[s]? = some r → N[s]? = some x → ∃ v, xs[x]? = some v ∧ StV K H v r) (nd : N.Nodup) (hx : N[rows.length]? = some x) (lx : x < N.length) (hv : StV K H v r) :
    FillR K (upd H fd (.lst (xs.set x v))) fd N (rows ++ [r]) := by
  have e : Ext [fd] H (upd H fd (.lst (xs.set x v))) := .wr (by simp)
  have l := one_lst h1
  refine ⟨xs.set x v, upd_same, by rw [List.length_set]; exact h2, fun s r' x' a b => ?_⟩
  by_cases hs : s < rows.length
  · rw [List.getElem?_append_left hs] at a
    obtain ⟨u, c, d⟩ := h3 s r' x' a b
    refine ⟨u, ?_, d.ext e l⟩
    have : x ≠ x' := fun z => by
      subst z
      have a1 := idx_of nd hx
      have a2 := idx_of nd b
      omega
    rw [List.getElem?_set_ne this]
    exact c
  · have hl := (List.getElem?_eq_some_iff.mp a).1
    rw [List.length_append, List.length_singleton] at hl
    have es : s = rows.length := by omega
    subst es
    rw [List.getElem?_append_right (Nat.le_refl _), Nat.sub_self] at a
    cases a
    rw [hx] at b
    cases b
    exact ⟨v, by rw [List.getElem?_set_self (by omega)], hv.ext e l⟩
theorem FillR.done {K : PySem.W.Frag} {H : Hp} {N : List Nat} {rows : List State} {xs : List V} {n : Nat} (h2 : xs.length = N.length) (h3 : ∀ (s : Nat) (r : State) (x : Nat), rows[s]? = some r → N[s]? = some x → ∃ v, xs[x]? = some v ∧ StV K H v r) (hN : NumsOk N n) (hr : rows.length = n) : Paired (StV K H) xs (putAt N rows) := by
  have key : ∀ (l : List V) (b : Book), l.length = b.length → (∀ (x : Nat) (v : V), l[x]? = some v → ∃ r, b[x]? = some r ∧ StV K H v r) → Paired (StV K H) l b := by
    intro l
    induction l with
    | nil =>
      intro b hb _
      cases b with
      | nil => exact .nil
      | cons _ _ => cases hb
    | cons v r ih =>
      intro b hb h
      cases b with
      | nil => cases hb
      | cons c b =>
        obtain ⟨r0, e, hv⟩ := h 0 v rfl
        cases e
        exact .cons hv (ih b (by simpa using hb) fun x u e => h (x + 1) u (by simpa using e))
  refine key xs _ (by rw [putAt_len]; exact h2) fun x v hv => ?_
  have hx : x < N.length := by rw [← h2]; exact (List.getElem?_eq_some_iff.mp hv).1
  have hm : x ∈ N := hN.perm.mem_iff.mpr (List.mem_range.mpr (by rw [← hN.len]; exact hx))
  obtain ⟨s, hs, e⟩ := List.mem_iff_getElem.mp hm
  have hNs : N[s]? = some x := by rw [List.getElem?_eq_getElem hs, e]
  have hsr : s < rows.length := by rw [hr, ← hN.len]; exact hs
  obtain ⟨u, hu, hst⟩ := h3 s rows[s] x (List.getElem?_eq_getElem hsr) hNs
  rw [hv] at hu
  cases hu
  refine ⟨rows[s], ?_, hst⟩
  have hl : x < (putAt N rows).length := by rw [putAt_len]; exact hx
  rw [mvs_lt hl, putAt_at hN.nd hNs hx, List.getD_eq_getElem?_getD, List.getElem?_eq_getElem hsr]
  rfl
theorem cutDropN (xs : List V) (n : Nat) : cutV xs (some (n : Int)) none = xs.drop n := by
  unfold cutV
  rw [HT.sIx_nat, HT.sIx_none]
  by_cases h : n ≤ xs.length
  · rw [Nat.min_eq_left h, List.take_of_length_le (by rw [List.length_drop]; exact Nat.le_refl _)]
  · rw [Nat.min_eq_right (by omega), List.drop_of_length_le (Nat.le_refl _), List.drop_of_length_le (by omega), List.take_nil]
theorem sc_law_book_renamed : FnScope ["pool", "book", "names", "found", "state", "moves", "at", "message", "to"] ["pool", "book"] (defScope s_law_book_renamed) := ⟨rfl, rfl, rfl, by decide +kernel, rfl, by decide +kernel, by decide +kernel⟩
def sp_law_book_renamed (K : PySem.W.Frag) : Sp := fun vs H Q _ => ∃ (p l : Addr) (v : V) (b : Book), vs = [.ref p, v] ∧ PoolAt H p l ∧ BkV K H v b ∧ FormB b ∧
  ∀ (N : List Nat) (r tn : Addr) (c : V) (H' : Hp), PutB b N [] → H' r = some (.lst [c, .ref tn]) → BkV K H' c (putB b N []) → PoolAt H' p l → Ext [p, l] H H' → Q (.ref r) H'
theorem ok_law_book_renamed (T : Tx K mg) : FnOk P w K mg base CX0 3 T.law_book_renamed.f T.law_book_renamed.fd ["pool", "book"] (sp_law_book_renamed K) := by
  refine T.law_book_renamed.F.ok sc_law_book_renamed (fun vs H Q E h => ?_) (fun cdv A outer s H vs Q E hr h => ?_)
  · obtain ⟨p, l, v, b, rfl, _⟩ := h; rfl
  · obtain ⟨p, l, v, b, rfl, P0, hb, fb, q⟩ := h
    obtain ⟨m, ls, rfl, hm, hls⟩ := id hb
    have h8 := fb.eight
    have h1 := fb.one
    have llen : ls.length = b.length := Paired.len hls
    refine ⟨_, (pss_cons (ps_set (i := 2) sc_law_book_renamed.nd rfl (.inr rfl) (pe_op op_cat (pe_lst (pa_cons pe_int pa_nil)) (pe_lc (own := [("at", 6)]) rfl sc_law_book_renamed.nd (pi_list (pe_call (ok_law_turned T) (hr.mono (by decide)) (by rfl) T.law_turned.g T.law_turned.F.kp T.law_turned.b .nil pass0 (pa_cons (pv 0) (pa_cons (pe_op op_sub (pe_callB call_len_seq (by rfl) T.n_len PySem.boot_len (pa_cons (pv 1) pa_nil)) pe_int) pa_nil)))) (blkOk_by (own := [("at", 6)]) (N := ["pool", "book", "names", "found", "state", "moves", "at", "message", "to"]) (sc := defScope s_law_book_renamed) (by decide +kernel)) (fun _ _ _ _ _ => (pg_name (i := 6) sc_law_book_renamed.nd rfl (.inl rfl))) (fun _ _ _ _ _ => pts_nil) (fun _ _ _ _ _ => (pe_op op_add pe_int (pv 6))))))
      (pss_cons (ps_set (i := 3) sc_law_book_renamed.nd rfl (.inl rfl) (pe_op op_rep (pe_lst (pa_cons (pe_tup pa_nil) pa_nil)) (pe_callB call_len_seq (by rfl) T.n_len PySem.boot_len (pa_cons (pv 1) pa_nil))))
      (pss_cons (ps_for PassesOwn.never rfl (pi_enumT (by rfl) T.n_enumerate (pa_cons (pv 1) pa_nil)) (pg_tup rfl (pgs_cons (pg_name (i := 4) sc_law_book_renamed.nd rfl (.inl rfl)) (pgs_cons (pg_name (i := 5) sc_law_book_renamed.nd rfl (.inl rfl)) pgs_nil)))
        (pss_one (ps_asg (pe_callTy call_tupZ (by rfl) T.n_tuple (by decide +kernel) (pa_cons (pe_lc (own := [("message", 7), ("to", 8)]) rfl sc_law_book_renamed.nd (pi_tup (pv 5)) (blkOk_by (own := [("message", 7), ("to", 8)]) (N := ["pool", "book", "names", "found", "state", "moves", "at", "message", "to"]) (sc := defScope s_law_book_renamed) (by decide +kernel)) (fun _ _ _ _ _ => (pg_tupK (n := 2) K rfl (pgs_cons (pg_name (i := 7) sc_law_book_renamed.nd rfl (.inl rfl)) (pgs_cons (pg_name (i := 8) sc_law_book_renamed.nd rfl (.inl rfl)) pgs_nil)))) (fun _ _ _ _ _ => pts_nil) (fun _ _ _ _ _ => (pe_tup (pa_cons (pv 7) (pa_cons (pe_ix (ix_listK K) (pv 2) (pv 8) (fun _ _ => rfl)) pa_nil))))) pa_nil)) (pg_sub (pv 3) (pe_ix ix_list (pv 2) (pv 4) (fun _ _ => rfl)) set_list))))
      (pss_one (ps_ret (pe_lst (pa_cons (pe_callTy call_tupZ (by rfl) T.n_tuple (by decide +kernel) (pa_cons (pv 3) pa_nil)) (pa_cons (pv 2) pa_nil)))))))), ?_⟩
    refine ⟨(by show 1 ≤ sizeLine; decide), fun z0 hz0 => ?_⟩
    have e1 : Ext [] H (upd H z0 (.lst [.int 0])) := .new hz0
    have P1 := P0.ext0 e1
    refine ⟨_, rfl, _, rfl, m, _, rfl, .inr (e1.tup Lsts.nil hm), _, _, rfl, rfl, p, l, b.length - 1, ?_, P1, by omega, fun ms t H2 perm ht nt P2 e2 => ?_⟩
    · rw [llen]
      have : ((b.length : Int) - 1) = ((b.length - 1 : Nat) : Int) := by omega
      show [V.ref p, V.int ((b.length : Int) - 1)] ++ [] = _
      rw [this]
      rfl
    -- names
    have fz0 : z0 ≠ p ∧ z0 ≠ l := P0.off hz0
    have hz2 := e2.at (upd_same (H := H) (a := z0) (o := HO.lst [.int 0])) (off2 fz0.1 fz0.2)
    refine ⟨t, rfl, ⟨_, .of ht⟩, fun D hD => ?_⟩
    refine lc_list (K := K) (a := t) (xs := ms.map nV) (fun i H' => H' D = some (.lst (((ms.take i).map (1 + ·)).map nV)) ∧ Ext [] H2 H') ⟨by simp; exact upd_same, .new hD⟩ (fun i H' _ ⟨_, e⟩ => .of (e.at ht (by simp))) ?_ ?_
    · rintro i v H' hv ⟨hX, e⟩
      obtain ⟨x, hx, rfl⟩ := map_at hv
      have hi := (List.getElem?_eq_some_iff.mp hx).1
      have ml := perm.length_eq
      rw [List.length_range] at ml
      refine ⟨rfl, yes ⟨_, rfl, _, _, rfl, rfl, _, hX, ?_, ?_, e.put hD⟩⟩
      · rw [List.length_map, List.length_map, List.length_take]
        exact small1000 (by omega)
      · rw [upd_same, List.take_add_one, hx, List.map_append, List.map_append]
        show some (HO.lst (_ ++ [V.int (1 + (x : Int))])) = some (HO.lst (_ ++ [nV (1 + x)]))
        rw [show (1 + (x : Int)) = ((1 + x : Nat) : Int) by omega]
    rintro H3 ⟨hD3, e3⟩
    rw [List.length_map, List.take_length] at hD3
    have NO := nums_of perm
    have nb : b.length - 1 + 1 = b.length := by omega
    rw [nb] at NO
    have ml : ms.length = b.length - 1 := by simpa using perm.length_eq
    refine ⟨z0, D, _, _, rfl, rfl, e3.at hz2 (by simp), hD3, ?_, fun nm hnm => ?_⟩
    · rw [List.length_map, List.length_map]
      exact Nat.le_of_lt (small1000 (by show 1 + ms.length ≤ 1000; omega))
    obtain ⟨N, eN⟩ : ∃ N, N = 0 :: ms.map (1 + ·) := ⟨_, rfl⟩
    have enm : ([V.int 0] ++ (ms.map (1 + ·)).map nV) = N.map nV := by rw [eN]; rfl
    rw [enm]
    rw [← eN] at NO
    have e4 : Ext [p, l] H (upd H3 nm (.lst (N.map nV))) := ((e1.weak.trans e2).trans e3.weak).put2 hnm
    have P4 := (P2.ext0 e3).ext0 (Ext.new (o := HO.lst (N.map nV)) hnm)
    have hnm4 : upd H3 nm (.lst (N.map nV)) nm = some (.lst (N.map nV)) := upd_same
    clear hnm hD3 hD e3 ht e2 P2 hz2 e1 P1 nt
    generalize upd H3 nm (.lst (N.map nV)) = H4 at *
    have Nl := NO.len
    -- found = [()] * len(book)
    refine ⟨Nat.zero_le _, fun t0 ht0 => ⟨(by show 1 ≤ sizeLine; decide), fun l0 hl0 => ⟨_, rfl, m, _, rfl, .inr (((e4.trans (Ext.new ht0).weak).trans (Ext.new hl0).weak).tup P0.lsts hm), l0, _, _, rfl, rfl, upd_same, by omega, by omega, ?_, fun fd hfd => ?_⟩⟩⟩
    · show 1 * ((ls.length : Int)).toNat ≤ sizeLine
      rw [Int.toNat_natCast, Nat.one_mul]
      exact Nat.le_of_lt (small1000 (by omega))
    have eL : (List.replicate ((ls.length : Int)).toNat [V.ref t0]).flatten = List.replicate b.length (V.ref t0) := by
      rw [Int.toNat_natCast, llen]
      clear q hb hls h8 h1 llen fb NO Nl nb perm ml e4
      induction b.length with
      | zero => rfl
      | succ n ih => rw [List.replicate_succ, List.flatten_cons, ih, List.replicate_succ]; rfl
    rw [eL]
    have e5 : Ext [p, l] H (upd (upd (upd H4 t0 (.tup [])) l0 (.lst [.ref t0])) fd (.lst (List.replicate b.length (V.ref t0)))) := ((e4.put2 ht0).put2 hl0).put2 hfd
    have P5 := ((P4.ext0 (Ext.new (o := HO.tup []) ht0)).ext0 (Ext.new (o := HO.lst [V.ref t0]) hl0)).ext0 (Ext.new (o := HO.lst (List.replicate b.length (V.ref t0))) hfd)
    have hnm5 : upd (upd (upd H4 t0 (.tup [])) l0 (.lst [.ref t0])) fd (.lst (List.replicate b.length (V.ref t0))) nm = some (.lst (N.map nV)) := ((((Ext.new (L := []) ht0).trans (Ext.new hl0)).trans (Ext.new hfd))).at hnm4 (by simp)
    have hfd5 : upd (upd (upd H4 t0 (.tup [])) l0 (.lst [.ref t0])) fd (.lst (List.replicate b.length (V.ref t0))) fd = some (.lst (List.replicate b.length (V.ref t0))) := upd_same
    have ffd : H fd = none := ((e4.put2 ht0).put2 hl0).free2 hfd (off2 (P4.off (((Ext.new (L := []) ht0).trans (Ext.new hl0)).free hfd)).1 (P4.off (((Ext.new (L := []) ht0).trans (Ext.new hl0)).free hfd)).2)
    clear hfd hl0 ht0 hnm4 P4 e4
    generalize upd (upd (upd H4 t0 (.tup [])) l0 (.lst [.ref t0])) fd (.lst (List.replicate b.length (V.ref t0))) = H5 at *
    have nmfd : nm ≠ fd := fun z => by 
      rw [z, hfd5] at hnm5
      have z2 : List.replicate b.length (V.ref t0) = N.map nV := by injection (Option.some.inj hnm5)
      have z3 : (N.map nV)[0]? = some (nV 0) := at_map NO.zero
      rw [← z2, List.getElem?_replicate] at z3
      split at z3 <;> cases z3
    have F5 : FillR K H5 fd N [] := ⟨_, hfd5, by rw [List.length_replicate, Nl], fun s r x a _ => by simp at a⟩
    refine ⟨_, rfl, m, ls, rfl, e5.tup P0.lsts hm, ?_⟩
    refine for_it (walk_enumT (K := K) (a := m) (xs := ls)) (fun i σ H' => ∃ (y4 y5 : Option V), σ = [some (.ref p), some (.ref m), some (.ref nm), some (.ref fd), y4, y5, none, none, none] ∧ FillR K H' fd N ((b.take i).map (mvN N)) ∧ H' nm = some (.lst (N.map nV)) ∧ PoolAt H' p l ∧ Ext [p, l] H H') ⟨_, _, rfl, F5, hnm5, P5, e5⟩ (fun i σ H' _ ⟨_, _, _, _, _, _, e⟩ => e.tup P0.lsts hm) ?_ ?_
    · rintro i v σ H6 H' hi ⟨y4, y5, rfl, F6, hnm6, P6, e6⟩ ⟨T', x, y, rfl, hT, rfl, hx, hy⟩
      cases hx
      have hib : i < b.length := by omega
      have hy : ls[i]? = some y := hy
      obtain ⟨st, hst, a, ps, rfl, ha, hps⟩ := Paired.get' hls hy
      rw [mvs_lt hib] at hst
      obtain rfl := Option.some.inj hst
      have plen := Paired.len hps
      have five := (fb.ok hib).few
      have e7 : Ext [] H6 (upd H6 T' (.tup [.int i, .ref a])) := .new hT
      refine ⟨T', _, rfl, .of upd_same, rfl, _, _, rfl, _, _, rfl, rfl, ?_⟩
      have F7 := F6.ext e7 Lsts.nil (by simp)
      have hnm7 := e7.at hnm6 (by simp)
      have P7 := P6.ext0 e7
      have e6 := e6.trans e7.weak
      clear e7 hnm6 F6 P6 hT
      generalize upd H6 T' (.tup [.int i, .ref a]) = H7 at *
      refine ⟨_, rfl, a, rfl, ⟨_, e6.tup P0.lsts ha.sq⟩, fun D hD => ?_⟩
      refine lc_tup (K := K) (a := a) (xs := ps.map V.ref) (fun k H2 => ∃ qs : List Addr, H2 D = some (.lst (qs.map V.ref)) ∧ Paired (MvV K H2) qs (mvN N ((mvs b i).take k)) ∧ Ext [] H7 H2) ⟨[], upd_same, .nil, .new hD⟩ (fun k H2 _ ⟨_, _, _, e2⟩ => (e6.trans e2.weak).tup P0.lsts ha.sq) ?_ ?_
      · rintro k v H2 hv ⟨qs, hq, hqp, e2⟩
        obtain ⟨c, hc, rfl⟩ := map_at hv
        obtain ⟨q', hp, hcp⟩ := Paired.get' hps hc
        have hcp : SqT K H2 c [.int q'.1, .int q'.2] := (e6.trans e2.weak).tup P0.lsts hcp
        have hto := fb.to (List.mem_of_getElem? hp)
        refine ⟨c, _, rfl, hcp, rfl, _, _, rfl, _, _, rfl, rfl, rfl, yes ?_⟩
        refine ⟨_, rfl, _, rfl, _, rfl, nm, _, _, _, rfl, rfl, .of (e2.at hnm7 (by simp)), atI_nat (at_map (NO.at_ hto)), (by show 2 ≤ sizeLine; decide), fun t ht => ?_⟩
        have e3 : Ext [] H2 (upd H2 t (.tup [.int q'.1, nV (N.getD q'.2 0)])) := .new ht
        refine ⟨_, e3.at hq (by simp), ?_, qs ++ [t], by rw [upd_same, List.map_append]; rfl, ?_, (e2.trans e3).put hD⟩
        · rw [List.length_map, Paired.len hqp, mvN, List.length_map, List.length_take]
          exact small1000 (by omega)
        · rw [List.take_add_one, hp, mvN, List.map_append]
          refine Paired.snoc ?_ (Paired.imp hqp fun _ _ z => (z.ext0 e3).put (e3.at hq (by simp)))
          exact MvV.put (m := (q'.1, N.getD q'.2 0)) (.of upd_same) (e3.at hq (by simp))
      · rintro H2 ⟨qs, hq, hqp, e2⟩
        have ek : (mvs b i).take (ps.map V.ref).length = mvs b i := List.take_of_length_le (by rw [List.length_map, plen]; exact Nat.le_refl _)
        rw [ek] at hqp
        refine ⟨D, _, rfl, .of hq, fun t H3 ht hH3 => ?_⟩
        obtain ⟨o, od, rfl⟩ := hH3
        have e3 : Ext [] H2 (upd H2 t (.frz o (.tup (qs.map V.ref)))) := .new ht
        have e4 := e2.trans e3
        have F8 := F7.ext e4 Lsts.nil (by simp)
        have hnm8 := e4.at hnm7 (by simp)
        have P8 := P7.ext0 e4
        have e8 := e6.trans e4.weak
        have st8 : StV K (upd H2 t (.frz o (.tup (qs.map V.ref)))) (.ref t) (mvN N (mvs b i)) := ⟨t, qs, rfl, ⟨o, upd_same, od⟩, Paired.imp hqp fun _ _ z => z.ext0 e3⟩
        clear e4 e3 ht hq hqp e2 F7 hnm7 P7
        generalize upd H2 t (.frz o (.tup (qs.map V.ref))) = H8 at *
        obtain ⟨xs, hX, hxl, hxr⟩ := F8
        have hNi := NO.at_ hib
        have hlt := NO.ltD hib
        refine ⟨_, rfl, _, rfl, _, rfl, nm, _, _, _, rfl, rfl, .of hnm8, atI_nat (at_map hNi), fd, xs, _, _, rfl, rfl, hX, ixNat (by rw [hxl, Nl]; exact hlt), ?_⟩
        obtain ⟨fp, fl⟩ := P0.off ffd
        refine ⟨_, _, rfl, ?_, by rw [upd_ne nmfd]; exact hnm8, P8.put fp fl, e8.put' ffd⟩
        rw [List.take_add_one, mvs_lt hib, List.map_append]
        refine FillR.put hX hxl hxr NO.nd ?_ (by rw [Nl]; exact hlt) st8
        rw [List.length_map, List.length_take, Nat.min_eq_left (Nat.le_of_lt hib)]
        exact hNi
    · rintro σ H6 ⟨y4, y5, rfl, ⟨xs, hX, hxl, hxr⟩, hnm6, P6, e6⟩
      rw [llen, List.take_length] at hxr
      refine ⟨_, rfl, fd, xs, rfl, .of hX, fun t H7 ht hH7 => ?_⟩
      obtain ⟨o, od, rfl⟩ := hH7
      have e7 : Ext [] H6 (upd H6 t (.frz o (.tup xs))) := .new ht
      have hp := FillR.done hxl hxr NO (by rw [List.length_map])
      refine ⟨_, rfl, (by show 2 ≤ sizeLine; decide), fun r hr' => ?_⟩
      have e8 := e7.put2 (o := .lst [.ref t, .ref nm]) hr'
      have pb : PutB b N [] := ⟨by simpa using NO, fun s hs => nomatch hs⟩
      refine q N r nm (.ref t) _ pb upd_same ?_ (P6.ext0 e8) (e6.trans e8.weak)
      have eb : putB b N [] = putAt N (b.map (mvN N)) := by unfold putB; rw [List.append_nil]
      rw [eb]
      exact BkV.ext0 ⟨t, xs, rfl, .inl (.inr ⟨o, upd_same⟩), Paired.imp hp fun _ _ z => z.ext0 e7⟩ (.new hr')
end
end Nv
set_option Elab.async false
set_option linter.all false
set_option maxRecDepth 100000
namespace Nv
open PySem PySem.Spec PyProof.Rows L2
section
variable {P : Program} {w : World} {K : PySem.W.Frag} {mg : Str → Option Value} {base : Heap}
/-! ### the least book; copies of states -/
theorem sc_least_book : FnScope ["book"] ["book"] (defScope s_least_book) := ⟨rfl, rfl, rfl, by decide +kernel, rfl, by decide +kernel, by decide +kernel⟩
theorem ok_least_book (T : Tx K mg) : FnOk P w K mg base CX0 6 T.least_book.f T.least_book.fd ["book"] (fun vs H Q _ => ∃ (v : V) (b : Book), vs = [v] ∧ BkV K H v b ∧ OkB b ∧ ∀ (c : Book) (f : Nat → Nat) (v' : V) (H' : Hp), OkB c → Hom b c f → BkV K H' v' c → Ext [] H H' → Q v' H') := by
  refine T.least_book.F.ok sc_least_book (fun vs H Q E h => ?_) (fun cdv A outer s H vs Q E hr h => ?_)
  · obtain ⟨v, b, rfl, _⟩ := h; rfl
  · obtain ⟨v, b, rfl, hb, ok, q⟩ := h
    refine ⟨_, (pss_cons (ps_expr (pe_call (ok_made_book T) (hr.mono (by decide)) (by rfl) T.made_book.g T.made_book.F.kp T.made_book.b .nil pass0 (pa_cons (pv 0) pa_nil)))
      (pss_one (ps_ret (pe_call (ok_least_states T) (hr.mono (by decide)) (by rfl) T.least_states.g T.least_states.F.kp T.least_states.b .nil pass0 (pa_cons (pv 0) pa_nil))))), ?_⟩
    refine ⟨_, rfl, v, b, rfl, hb, ok, fun H1 e1 => ?_⟩
    refine ⟨_, rfl, v, b, rfl, hb.ext0 e1, ok.toFormB, fun ks m v' H' lb h' e' => ?_⟩
    have of := lb.ok ok
    have mo := metO of.toFormB
    exact q _ _ v' H' (ren_okB of.toFormB) ((lb.hom ok.toFormB).comp ok.toFormB (ren_hom of mo.toMet)) h' (e1.trans e')
theorem Paired.of_get {α β : Type} {F : α → β → Prop} : ∀ {l₁ : List α} {l₂ : List β}, l₁.length = l₂.length → (∀ (i : Nat) (a : α) (b : β), l₁[i]? = some a → l₂[i]? = some b → F a b) → Paired F l₁ l₂
  | [], [], _, _ => .nil
  | [], _ :: _, h, _ => by simp at h
  | _ :: _, [], h, _ => by simp at h
  | a :: r, b :: s, h, f => .cons (f 0 a b rfl rfl) (Paired.of_get (by simpa using h) fun i x y h1 h2 => f (i + 1) x y (by simpa using h1) (by simpa using h2))
/-- states of c stand for states of b -/
structure Cp (b c : Book) (g : List Nat) : Prop where
  len : g.length = c.length
  zero : g[0]? = some 0
  lt : ∀ s, s < c.length → g.getD s 0 < b.length
  mv : ∀ s, s < c.length → mvs b (g.getD s 0) = (mvs c s).map fun p => (p.1, g.getD p.2 0)
  to : ∀ s, ∀ p ∈ mvs c s, p.2 < c.length
theorem range_getD {n s : Nat} (h : s < n) : (List.range n).getD s 0 = s := getD_at (List.getElem?_range h)
theorem Cp.first {b : Book} (fb : FormB b) : Cp b b (List.range b.length) where
  len := List.length_range
  zero := List.getElem?_range fb.one
  lt := fun s hs => by rw [range_getD hs]; exact hs
  mv := fun s hs => by
    rw [range_getD hs]
    conv => lhs; rw [← List.map_id (mvs b s)]
    refine List.map_congr_left fun p hp => ?_
    show p = (p.1, (List.range b.length).getD p.2 0)
    rw [range_getD (fb.to hp)]
  to := fun s p hp => fb.to hp
theorem mvs_app {c : Book} {x : State} {s : Nat} (h : s < c.length) : mvs (c ++ [x]) s = mvs c s := by
  refine mvs_of ?_
  rw [List.getElem?_append_left h]
  exact mvs_lt h
theorem mvs_app2 {c : Book} {x : State} : mvs (c ++ [x]) c.length = x := by
  refine mvs_of ?_
  rw [List.getElem?_append_right (Nat.le_refl _), Nat.sub_self]
  rfl
theorem Cp.copy {b c : Book} {g : List Nat} (h : Cp b c g) {s : Nat} (hs : s < c.length) : Cp b (c ++ [mvs c s]) (g ++ [g.getD s 0]) := by
  have old : ∀ {x : Nat}, x < c.length → (g ++ [g.getD s 0]).getD x 0 = g.getD x 0 := by
    intro x hx
    rw [List.getD_eq_getElem?_getD, List.getElem?_append_left (by rw [h.len]; exact hx), ← List.getD_eq_getElem?_getD]
  have new : (g ++ [g.getD s 0]).getD c.length 0 = g.getD s 0 := by
    refine getD_at ?_
    rw [← h.len, List.getElem?_append_right (Nat.le_refl _), Nat.sub_self]
    rfl
  have mapOld : ∀ {x : Nat}, (mvs c x).map (fun p => (p.1, (g ++ [g.getD s 0]).getD p.2 0)) = (mvs c x).map fun p => (p.1, g.getD p.2 0) := by
    intro x
    refine List.map_congr_left fun p hp => ?_
    rw [old (h.to x p hp)]
  have cases' : ∀ {x : Nat}, x < (c ++ [mvs c s]).length → x < c.length ∨ x = c.length := by
    intro x hx
    rw [List.length_append, List.length_singleton] at hx
    omega
  refine ⟨by rw [List.length_append, List.length_append, h.len]; rfl, ?_, fun x hx => ?_, fun x hx => ?_, fun x p hp => ?_⟩
  · rw [List.getElem?_append_left (by rw [h.len]; omega)]
    exact h.zero
  · rcases cases' hx with hx | rfl
    · rw [old hx]; exact h.lt x hx
    · rw [new]; exact h.lt s hs
  · rcases cases' hx with hx | rfl
    · rw [old hx, mvs_app hx, mapOld]; exact h.mv x hx
    · rw [new, mvs_app2, mapOld]; exact h.mv s hs
  · rw [List.length_append, List.length_singleton]
    by_cases hx : x < c.length
    · rw [mvs_app hx] at hp
      have := h.to x p hp
      omega
    · by_cases e : x = c.length
      · subst e
        rw [mvs_app2] at hp
        have := h.to s p hp
        omega
      · rw [mvs_out (by rw [List.length_append, List.length_singleton]; omega)] at hp
        cases hp
theorem mvs_set {c : Book} {o x : Nat} {st : State} (ho : o < c.length) : mvs (c.set o st) x = if x = o then st else mvs c x := by
  unfold mvs
  rw [List.getD_eq_getElem?_getD, List.getElem?_set]
  by_cases e : o = x
  · subst e
    rw [if_pos rfl, if_pos ho, if_pos rfl]
    rfl
  · rw [if_neg e, if_neg (fun z => e z.symm), List.getD_eq_getElem?_getD]
theorem Cp.lead {b c : Book} {g : List Nat} (h : Cp b c g) {o k t : Nat} {p : Nat × Nat} (ho : o < c.length) (hk : (mvs c o)[k]? = some p) (ht : t < c.length) (e : g.getD t 0 = g.getD p.2 0) : Cp b (c.set o ((mvs c o).set k (p.1, t))) g := by
  refine ⟨by rw [List.length_set]; exact h.len, h.zero, fun x hx => ?_, fun x hx => ?_, fun x q hq => ?_⟩
  · rw [List.length_set] at hx; exact h.lt x hx
  · rw [List.length_set] at hx
    rw [mvs_set ho]
    by_cases ex : x = o
    · subst ex
      rw [if_pos rfl, h.mv x hx, List.map_set]
      refine List.ext_getElem? fun i => ?_
      rw [List.getElem?_set]
      by_cases ei : k = i
      · subst ei
        have hl : k < (mvs c x).length := (List.getElem?_eq_some_iff.mp hk).1
        rw [if_pos rfl, if_pos (by rw [List.length_map]; exact hl), List.getElem?_map, hk]
        show some (p.1, g.getD p.2 0) = some (p.1, g.getD t 0)
        rw [e]
      · rw [if_neg ei]
    · rw [if_neg ex]
      exact h.mv x hx
  · rw [List.length_set]
    rw [mvs_set ho] at hq
    by_cases ex : x = o
    · rw [if_pos ex] at hq
      rcases List.mem_or_eq_of_mem_set hq with hq | rfl
      · exact h.to o q hq
      · exact ht
    · rw [if_neg ex] at hq
      exact h.to x q hq
theorem Cp.ok {b c : Book} {g : List Nat} {F : List Nat} (fb : FormB b) (h : Cp b c g) (m : Met c F) (h8 : c.length ≤ 8) : OkB (rename c F) := by
  refine m.okB h8 fun s hs => ?_
  have so := fb.ok (h.lt s hs)
  rw [h.mv s hs] at so
  have e1 : ((mvs c s).map fun p => (p.1, g.getD p.2 0)).map (·.1) = (mvs c s).map (·.1) := by rw [List.map_map]; rfl
  refine ⟨?_, ?_, fun p hp => ?_⟩
  · have := so.few
    rwa [List.length_map] at this
  · have := so.rise
    rwa [e1] at this
  · exact so.msg (p.1, g.getD p.2 0) (List.mem_map.mpr ⟨p, hp, rfl⟩)
theorem Cp.hom {b c : Book} {g : List Nat} {F : List Nat} (h : Cp b c g) (m : Met c F) : Hom (rename c F) b fun j => g.getD (F.getD j 0) 0 where
  zero := by
    show g.getD (F.getD 0 0) 0 = 0
    rw [getD_at m.zero, getD_at h.zero]
  lt := fun j hj => by
    rw [rename_len] at hj
    have e : F[j]? = some F[j] := List.getElem?_eq_getElem hj
    rw [getD_at e]
    exact h.lt _ (m.lt _ (List.getElem_mem hj))
  mv := fun j hj => by
    rw [rename_len] at hj
    have e : F[j]? = some F[j] := List.getElem?_eq_getElem hj
    show mvs b (g.getD (F.getD j 0) 0) = _
    rw [getD_at e, rename_at e, h.mv _ (m.lt _ (List.getElem_mem hj)), List.map_map]
    refine List.map_congr_left fun p hp => ?_
    have hm := m.cl _ (List.getElem_mem hj) p hp
    have hl := List.idxOf_lt_length_of_mem hm
    show (p.1, g.getD p.2 0) = (p.1, g.getD (F.getD (F.idxOf p.2) 0) 0)
    rw [getD_at (show F[F.idxOf p.2]? = some p.2 by rw [List.getElem?_eq_getElem hl]; exact congrArg some (List.getElem_idxOf hl))]
theorem putB_hom {b : Book} {N : List Nat} (fb : FormB b) (h : PutB b N []) : Hom (putB b N []) b N.idxOf where
  zero := idx_of h.n.nd h.n.zero
  lt := fun x hx => by
    rw [putB_len h] at hx
    have hm : x ∈ N := h.n.perm.mem_iff.mpr (List.mem_range.mpr hx)
    have := List.idxOf_lt_length_of_mem hm
    rw [h.n.len] at this
    simpa using this
  mv := fun x hx => by
    rw [putB_len h] at hx
    have hm : x ∈ N := h.n.perm.mem_iff.mpr (List.mem_range.mpr hx)
    have hl := List.idxOf_lt_length_of_mem hm
    have hs : N.idxOf x < b.length := by rw [h.n.len] at hl; simpa using hl
    have hN : N[N.idxOf x]? = some x := by rw [List.getElem?_eq_getElem hl]; exact congrArg some (List.getElem_idxOf hl)
    rw [putB_at h hs hN]
    unfold mvN
    rw [List.map_map]
    conv => lhs; rw [← List.map_id (mvs b (N.idxOf x))]
    refine List.map_congr_left fun p hp => ?_
    show p = (p.1, N.idxOf (N.getD p.2 0))
    have hp2 := fb.to hp
    have : p.2 < N.length := by rw [h.n.len]; simpa using hp2
    have e : N[p.2]? = some (N.getD p.2 0) := by rw [List.getD_eq_getElem?_getD, List.getElem?_eq_getElem this]; rfl
    rw [idx_of h.n.nd e]
/-- a list of lists of moves that may be written -/
structure RawL (K : PySem.W.Frag) (H : Hp) (m : Addr) (as : List Addr) (c : Book) : Prop where
  at_ : H m = some (.lst (as.map V.ref))
  nd : as.Nodup
  off : m ∉ as
  st : Paired (fun a s => ∃ ps : List Addr, H a = some (.lst (ps.map V.ref)) ∧ Paired (MvV K H) ps s) as c
theorem RawL.ext {K : PySem.W.Frag} {H H' : Hp} {L : List Addr} {m : Addr} {as : List Addr} {c : Book} (h : RawL K H m as c) (e : Ext L H H') (l : Lsts L H) (hm : m ∉ L) (ha : ∀ a ∈ as, a ∉ L) : RawL K H' m as c := by
  refine ⟨e.at h.at_ hm, h.nd, h.off, Paired.of_get (Paired.len h.st) fun i a s h1 h2 => ?_⟩
  obtain ⟨s', e1, ps, e2, e3⟩ := Paired.get' h.st h1
  rw [h2] at e1
  cases e1
  exact ⟨ps, e.at e2 (ha a (List.mem_of_getElem? h1)), Paired.imp e3 fun _ _ z => e.tup l z⟩
theorem RawL.wr {K : PySem.W.Frag} {H : Hp} {m : Addr} {as : List Addr} {c : Book} {o k : Nat} {a nt : Addr} {ps : List Addr} {s : State} {q : Nat × Nat} (h : RawL K H m as c) (ha : as[o]? = some a) (hs : c[o]? = some s) (hp : H a = some (.lst (ps.map V.ref))) (hps : Paired (MvV K H) ps s) (hq : MvV K H nt q) :
    RawL K (upd H a (.lst (ps.set k nt |>.map V.ref))) m as (c.set o (s.set k q)) := by
  have am : m ≠ a := fun z => h.off (by rw [z]; exact List.mem_of_getElem? ha)
  refine ⟨by rw [upd_ne am]; exact h.at_, h.nd, h.off, Paired.of_get (by rw [List.length_set]; exact Paired.len h.st) fun i x t h1 h2 => ?_⟩
  by_cases e : o = i
  · subst e
    rw [ha] at h1
    cases h1
    rw [List.getElem?_set_self (List.getElem?_eq_some_iff.mp hs).1] at h2
    cases h2
    exact ⟨_, upd_same, Paired.set (hq.put hp) k (Paired.imp hps fun _ _ z => z.put hp)⟩
  · rw [List.getElem?_set_ne e] at h2
    have hx : x ≠ a := fun z => by
      subst z
      exact e ((List.getElem?_inj (List.getElem?_eq_some_iff.mp ha).1 h.nd).mp (ha.trans h1.symm))
    obtain ⟨s', e1, qs, e2, e3⟩ := Paired.get' h.st h1
    rw [h2] at e1
    cases e1
    exact ⟨qs, by rw [upd_ne hx]; exact e2, Paired.imp e3 fun _ _ z => z.put hp⟩
theorem RawL.ls {K : PySem.W.Frag} {H : Hp} {m : Addr} {as : List Addr} {c : Book} (h : RawL K H m as c) : LbV K H (.ref m) c := by
  refine ⟨m, _, rfl, h.at_, ?_⟩
  have key : ∀ {as : List Addr} {c : Book}, Paired (fun a s => ∃ ps : List Addr, H a = some (.lst (ps.map V.ref)) ∧ Paired (MvV K H) ps s) as c → Paired (LsV K H) (as.map V.ref) c := by
    intro as c h
    induction h with
    | nil => exact .nil
    | cons r _ ih =>
      obtain ⟨ps, h1, h2⟩ := r
      exact .cons ⟨_, ps, rfl, h1, h2⟩ ih
  exact key h.st
theorem RawL.get {K : PySem.W.Frag} {H : Hp} {m : Addr} {as : List Addr} {c : Book} (h : RawL K H m as c) {s : Nat} (hs : s < c.length) : ∃ (a : Addr) (ps : List Addr), as[s]? = some a ∧ H a = some (.lst (ps.map V.ref)) ∧ Paired (MvV K H) ps (mvs c s) := by
  obtain ⟨a, h1, ps, h2, h3⟩ := Paired.get h.st (mvs_lt hs)
  exact ⟨a, ps, h1, h2, h3⟩
theorem sc_law_book_copied : FnScope ["pool", "book", "states", "moves", "turn", "state", "other", "at", "message", "to"] ["pool", "book", "states"] (defScope s_law_book_copied) := ⟨rfl, rfl, rfl, by decide +kernel, rfl, by decide +kernel, by decide +kernel⟩
def sp_law_book_copied (K : PySem.W.Frag) : Sp := fun vs H Q _ => ∃ (p l : Addr) (v : V) (b : Book) (S : Nat), vs = [.ref p, v, .int S] ∧ PoolAt H p l ∧ BkV K H v b ∧ OkB b ∧ b.length ≤ S ∧ S ≤ 8 ∧
  ∀ (c : Book) (f : Nat → Nat) (v' : V) (H' : Hp), OkB c → c.length ≤ S → Hom c b f → BkV K H' v' c → PoolAt H' p l → Ext [p, l] H H' → Q v' H'
theorem ok_law_book_copied (T : Tx K mg) : FnOk P w K mg base CX0 3 T.law_book_copied.f T.law_book_copied.fd ["pool", "book", "states"] (sp_law_book_copied K) := by
  refine T.law_book_copied.F.ok sc_law_book_copied (fun vs H Q E h => ?_) (fun cdv A outer s H vs Q E hr h => ?_)
  · obtain ⟨p, l, v, b, S, rfl, _⟩ := h; rfl
  · obtain ⟨p, l, v, b, S, rfl, P0, hb, ok, hbS, hS, q⟩ := h
    have fb := ok.toFormB
    obtain ⟨a, ls, rfl, ha, hls⟩ := id hb
    have llen := Paired.len hls
    have h8 := fb.eight
    have h1 := fb.one
    refine ⟨_, (pss_cons (ps_setLc (i := 3) (own := [("state", 5)]) rfl sc_law_book_copied.nd rfl rfl (sw_true rfl rfl rfl (by decide +kernel)) (pi_tup (pv 1)) (blkOk_by (own := [("state", 5)]) (N := ["pool", "book", "states", "moves", "turn", "state", "other", "at", "message", "to"]) (sc := defScope s_law_book_copied) (by decide +kernel)) (fun _ _ _ _ _ => (pg_name (i := 5) sc_law_book_copied.nd rfl (.inl rfl))) (fun _ _ _ _ _ => pts_nil) (fun _ _ _ _ _ => (pe_callTy (call_list_ofK K) (by rfl) T.n_list (by decide +kernel) (pa_cons (pv 5) pa_nil))))
      (pss_cons (ps_for PassesOwn.never rfl (pi_range1 (by rfl) T.n_range (pa_cons (pe_call (ok_law_draw T) (hr.mono (by decide)) (by rfl) T.law_draw.g T.law_draw.F.kp T.law_draw.b .nil pass0 (pa_cons (pv 0) (pa_cons pe_int pa_nil))) pa_nil)) (pg_name (i := 4) sc_law_book_copied.nd rfl (.inl rfl))
        (pss_one (ps_if (pt_cmpR op_lt (pe_callB call_len_seq (by rfl) T.n_len PySem.boot_len (pa_cons (pv 3) pa_nil)) (pv 2) (nomark _))
          (pss_cons (ps_set (i := 5) sc_law_book_copied.nd rfl (.inl rfl) (pe_call (ok_law_draw T) (hr.mono (by decide)) (by rfl) T.law_draw.g T.law_draw.F.kp T.law_draw.b .nil pass0 (pa_cons (pv 0) (pa_cons (pe_callB call_len_seq (by rfl) T.n_len PySem.boot_len (pa_cons (pv 3) pa_nil)) pa_nil))))
          (pss_cons (ps_expr (pe_bm PySem.F.plainAttrs_list PySem.F.slot_list_append PySem.F.type_list_append mt_append (pv 3) (pa_cons (pe_callTy call_list_of (by rfl) T.n_list (by decide +kernel) (pa_cons (pe_ix ix_list (pv 3) (pv 5) (fun _ _ => rfl)) pa_nil)) pa_nil)))
          (pss_one (ps_for PassesOwn.never rfl (pi_range1 (by rfl) T.n_range (pa_cons (pe_callB call_len_seq (by rfl) T.n_len PySem.boot_len (pa_cons (pv 3) pa_nil)) pa_nil)) (pg_name (i := 6) sc_law_book_copied.nd rfl (.inl rfl))
            (pss_one (ps_for PassesOwn.never rfl (pi_range1 (by rfl) T.n_range (pa_cons (pe_callB call_len_seq (by rfl) T.n_len PySem.boot_len (pa_cons (pe_ix ix_list (pv 3) (pv 6) (fun _ _ => rfl)) pa_nil)) pa_nil)) (pg_name (i := 7) sc_law_book_copied.nd rfl (.inl rfl))
              (pss_cons (ps_asg (pe_ix ix_list (pe_ix ix_list (pv 3) (pv 6) (fun _ _ => rfl)) (pv 7) (fun _ _ => rfl)) (pg_tup rfl (pgs_cons (pg_name (i := 8) sc_law_book_copied.nd rfl (.inl rfl)) (pgs_cons (pg_name (i := 9) sc_law_book_copied.nd rfl (.inl rfl)) pgs_nil))))
              (pss_one (ps_if (PW.pt (pw_and (pt_cmpR op_eq (pv 9) (pv 5) (nomark _)) (pw_and1 (pt_cmpR op_eq (pe_call (ok_law_draw T) (hr.mono (by decide)) (by rfl) T.law_draw.g T.law_draw.F.kp T.law_draw.b .nil pass0 (pa_cons (pv 0) (pa_cons pe_int pa_nil))) pe_int (nomark _)))))
                (pss_one (ps_asg (pe_tup (pa_cons (pv 8) (pa_cons (pe_op op_sub (pe_callB call_len_seq (by rfl) T.n_len PySem.boot_len (pa_cons (pv 3) pa_nil)) pe_int) pa_nil))) (pg_sub (pe_ix ix_list (pv 3) (pv 6) (fun _ _ => rfl)) (pv 7) set_list)))
                pss_nil)))))))))
          pss_nil)))
      (pss_one (ps_ret (pe_call (ok_law_book_meeting T) (hr.mono (by decide)) (by rfl) T.law_book_meeting.g T.law_book_meeting.F.kp T.law_book_meeting.b .nil pass0 (pa_cons (pv 3) pa_nil)))))), ?_⟩
    -- moves
    refine ⟨_, rfl, a, rfl, ⟨_, ha⟩, fun D hD => ?_⟩
    refine lc_tup (K := K) (a := a) (xs := ls) (fun i H' => ∃ as : List Addr, RawL K H' D as (b.take i) ∧ (∀ x ∈ as, H x = none) ∧ Ext [] H H') ⟨[], ⟨upd_same, .nil, by simp, .nil⟩, fun x hx => (nomatch hx), .new hD⟩ (fun i H' _ ⟨_, _, _, e⟩ => e.tup Lsts.nil ha) ?_ ?_
    · rintro i v H' hv ⟨as, R, hf, e⟩
      obtain ⟨st, hst, c, ps, rfl, hc, hps⟩ := Paired.get' hls hv
      have hib : i < b.length := (List.getElem?_eq_some_iff.mp hst).1
      refine ⟨rfl, yes ?_⟩
      refine ⟨_, rfl, c, _, rfl, .inr (e.tup Lsts.nil hc.sq), fun nl hnl => ?_⟩
      have e1 : Ext [] H' (upd H' nl (.lst (ps.map V.ref))) := .new hnl
      have R1 := R.ext e1 Lsts.nil (by simp) (by simp)
      have nlD : D ≠ nl := ne_of_none R.at_ hnl
      have nla : nl ∉ as := fun z => by
        obtain ⟨j, hj⟩ := List.mem_iff_getElem?.mp z
        obtain ⟨_, _, _, h2, _⟩ := Paired.get' R.st hj
        rw [h2] at hnl
        cases hnl
      refine ⟨_, R1.at_, ?_, as ++ [nl], ⟨by rw [upd_same, List.map_append]; rfl, ?_, ?_, ?_⟩, fun x hx => ?_, (e.trans e1).put hD⟩
      · rw [List.length_map, Paired.len R.st, List.length_take]
        exact small1000 (by omega)
      · exact List.nodup_append.mpr ⟨R.nd, by simp, fun x hx y hy e => nla (by rw [← List.mem_singleton.mp hy, ← e]; exact hx)⟩
      · rw [List.mem_append]
        rintro (z | z)
        · exact R.off z
        · exact nlD (List.mem_singleton.mp z)
      · rw [List.take_add_one, hst]
        have w : ∀ {x : Addr} {s : State}, x ≠ D → (∃ ps : List Addr, upd H' nl (.lst (ps.map V.ref)) x = some (.lst (ps.map V.ref)) ∧ True) → True := fun _ _ => trivial
        refine Paired.snoc ⟨ps, by rw [upd_ne nlD.symm, upd_same], Paired.imp hps fun _ _ z => (MvV.ext0 z (e.trans e1)).put R1.at_⟩ (Paired.of_get (Paired.len R1.st) fun i x t h1 h2 => ?_)
        obtain ⟨s', e1', qs, e2, e3⟩ := Paired.get' R1.st h1
        rw [h2] at e1'
        cases e1'
        have hx : x ≠ D := fun z => R.off (by rw [← z]; exact List.mem_of_getElem? h1)
        exact ⟨qs, by rw [upd_ne hx]; exact e2, Paired.imp e3 fun _ _ z => z.put R1.at_⟩
      · rcases List.mem_append.mp hx with hx | hx
        · exact hf x hx
        · rw [List.mem_singleton.mp hx]
          exact e.free hnl
    rintro H1 ⟨as, R, hf, e1⟩
    rw [llen, List.take_length] at R
    have P1 := P0.ext0 e1
    -- turns
    refine ⟨_, rfl, p, l, 4, rfl, P1, by decide, by decide, fun r H2 r0 r4 P2 e2 => ?_⟩
    have offF : ∀ {x : Addr}, H x = none → x ∉ [p, l] := fun hx => off2 (P0.off hx).1 (P0.off hx).2
    have R2 := R.ext e2 P1.lsts (offF hD) fun x hx => offF (hf x hx)
    have e3 : Ext [p, l] H H2 := e1.weak.trans e2
    clear e1 e2 R P1
    refine ⟨_, rfl, by omega, by omega, for_range (lo := 0) (n := _) (fun i σ H' => ∃ (c : Book) (g : List Nat) (as : List Addr) (y4 y5 y6 y7 y8 y9 : Option V), σ = [some (.ref p), some (.ref a), some (.int S), some (.ref D), y4, y5, y6, y7, y8, y9] ∧ RawL K H' D as c ∧ (∀ x ∈ as, H x = none) ∧ Cp b c g ∧ c.length ≤ S ∧ PoolAt H' p l ∧ Ext [p, l] H H')
      ⟨b, _, as, _, _, _, _, _, _, rfl, R2, hf, .first fb, hbS, P2, e3⟩ ?_ ?_⟩
    · rintro i σ H3 hi ⟨c, g, as, y4, y5, y6, y7, y8, y9, rfl, R3, hf, cp, hcS, P3, e3⟩
      have alen := Paired.len R3.st
      have c1 : 1 ≤ c.length := by rw [← cp.len]; exact (List.getElem?_eq_some_iff.mp cp.zero).1
      simp only [Int.zero_add]
      -- if len(moves) < states
      refine ⟨_, rfl, D, _, rfl, .inl (.of R3.at_), _, rfl, _, _, rfl, rfl, _, rfl, ite2 (fun z => ?_) (fun _ => ⟨c, g, as, _, _, _, _, _, _, rfl, R3, hf, cp, hcS, P3, e3⟩)⟩
      have z := of_decide_eq_true z
      rw [List.length_map, alen] at z
      refine ⟨_, rfl, _, rfl, D, _, rfl, .inl (.of R3.at_), p, l, _, rfl, P3, by rw [List.length_map, alen]; omega, by rw [List.length_map, alen]; omega, fun r H4 r0 r1 P4 e4 => ?_⟩
      rw [List.length_map, alen] at r1
      obtain ⟨s, rfl⟩ : ∃ s : Nat, r = s := ⟨r.toNat, by omega⟩
      have hs : s < c.length := by omega
      have R4 := R3.ext e4 P3.lsts (offF hD) fun x hx => offF (hf x hx)
      obtain ⟨x, ps, hx, hxl, hps⟩ := R4.get hs
      -- moves.append(list(moves[state]))
      refine ⟨_, rfl, .inl ⟨rfl, _, .of R4.at_⟩, _, rfl, _, rfl, D, _, _, _, rfl, rfl, .of R4.at_, atI_nat (at_map hx), x, _, rfl, .inl (.of hxl), fun nl hnl => ?_⟩
      have e5 : Ext [] H4 (upd H4 nl (.lst (ps.map V.ref))) := .new hnl
      have R5 := R4.ext e5 Lsts.nil (by simp) (by simp)
      have nlD : D ≠ nl := ne_of_none R4.at_ hnl
      have nla : nl ∉ as := fun z => by
        obtain ⟨j, hj⟩ := List.mem_iff_getElem?.mp z
        obtain ⟨_, _, _, h2, _⟩ := Paired.get' R4.st hj
        rw [h2] at hnl
        cases hnl
      have P5 := P4.ext0 e5
      have e45 := (e3.trans e4).trans e5.weak
      have nlH : H nl = none := (e3.trans e4).free2 hnl (off2 (P4.off hnl).1 (P4.off hnl).2)
      refine ⟨D, _, _, rfl, rfl, R5.at_, by rw [List.length_map, alen]; exact small1000 (by omega), ?_⟩
      have R6 : RawL K (upd (upd H4 nl (.lst (ps.map V.ref))) D (.lst (as.map V.ref ++ [V.ref nl]))) D (as ++ [nl]) (c ++ [mvs c s]) := by
        refine ⟨by rw [upd_same, List.map_append]; rfl, ?_, ?_, ?_⟩
        · exact List.nodup_append.mpr ⟨R4.nd, by simp, fun x hx y hy e => nla (by rw [← List.mem_singleton.mp hy, ← e]; exact hx)⟩
        · rw [List.mem_append]
          rintro (z | z)
          · exact R4.off z
          · exact nlD (List.mem_singleton.mp z)
        · refine Paired.snoc ⟨ps, by rw [upd_ne nlD.symm, upd_same], Paired.imp hps fun _ _ z => (MvV.ext0 z e5).put R5.at_⟩ (Paired.of_get (Paired.len R5.st) fun i x t h1 h2 => ?_)
          obtain ⟨s', e1', qs, e2, e3⟩ := Paired.get' R5.st h1
          rw [h2] at e1'
          cases e1'
          have hx : x ≠ D := fun z => R4.off (by rw [← z]; exact List.mem_of_getElem? h1)
          exact ⟨qs, by rw [upd_ne hx]; exact e2, Paired.imp e3 fun _ _ z => z.put R5.at_⟩
      have hf6 : ∀ x ∈ as ++ [nl], H x = none := fun x hx => by
        rcases List.mem_append.mp hx with hx | hx
        · exact hf x hx
        · rw [List.mem_singleton.mp hx]; exact nlH
      have cp6 := cp.copy hs
      have P6 := P5.put (o := .lst (as.map V.ref ++ [V.ref nl])) (P0.off hD).1 (P0.off hD).2
      have e6 := e45.put' (o := .lst (as.map V.ref ++ [V.ref nl])) hD
      have hnew : (g ++ [g.getD s 0]).getD c.length 0 = (g ++ [g.getD s 0]).getD s 0 := by
        rw [getD_at (show (g ++ [g.getD s 0])[c.length]? = some (g.getD s 0) by rw [← cp.len, List.getElem?_append_right (Nat.le_refl _), Nat.sub_self]; rfl), List.getD_eq_getElem?_getD (l := g ++ [g.getD s 0]) (i := s), List.getElem?_append_left (by rw [cp.len]; exact hs), ← List.getD_eq_getElem?_getD]
      have l6 : (c ++ [mvs c s]).length = c.length + 1 := by rw [List.length_append]; rfl
      have hS6 : c.length + 1 ≤ S := by omega
      clear R5 R4 R3 P5 P4 P3 e45 e5 e4 e3 hxl hps hx hnl cp z nlD nla nlH alen
      generalize upd (upd H4 nl (.lst (ps.map V.ref))) D (.lst (as.map V.ref ++ [V.ref nl])) = H6 at *
      generalize as ++ [nl] = as6 at *
      generalize g ++ [g.getD s 0] = g6 at *
      generalize hc6 : c ++ [mvs c s] = c6 at *
      have alen := Paired.len R6.st
      -- for other in range(len(moves))
      refine ⟨_, rfl, D, _, rfl, .inl (.of R6.at_), _, rfl, by rw [List.length_map, alen]; omega, by rw [List.length_map, alen]; omega, ?_⟩
      rw [List.length_map, alen]
      refine for_range (lo := 0) (n := _) (fun o σ H' => ∃ (c7 : Book) (y6 y7 y8 y9 : Option V), σ = [some (.ref p), some (.ref a), some (.int S), some (.ref D), some (.int i), some (.int s), y6, y7, y8, y9] ∧ RawL K H' D as6 c7 ∧ Cp b c7 g6 ∧ c7.length = c6.length ∧ PoolAt H' p l ∧ Ext [p, l] H H') ⟨c6, _, _, _, _, rfl, R6, cp6, rfl, P6, e6⟩ ?_ ?_
      · rintro o σ H7 ho ⟨c7, y6, y7, y8, y9, rfl, R7, cp7, l7, P7, e7⟩
        have ho : o < c7.length := by omega
        obtain ⟨x, ps, hx, hxl, hps⟩ := R7.get ho
        have plen := Paired.len hps
        simp only [Int.zero_add]
        have pl5 : (mvs c7 o).length ≤ 5 := by
          have so := (fb.ok (cp7.lt o ho)).few
          rw [cp7.mv o ho, List.length_map] at so
          exact so
        -- for at in range(len(moves[other]))
        refine ⟨_, rfl, _, rfl, D, _, _, _, rfl, rfl, .of R7.at_, atI_nat (at_map hx), x, _, rfl, .inl (.of hxl), _, rfl, by rw [List.length_map]; omega, by rw [List.length_map]; omega, ?_⟩
        rw [List.length_map, plen]
        refine for_range (lo := 0) (n := _) (fun k σ H' => ∃ (c8 : Book) (y7 y8 y9 : Option V), σ = [some (.ref p), some (.ref a), some (.int S), some (.ref D), some (.int i), some (.int s), some (.int o), y7, y8, y9] ∧ RawL K H' D as6 c8 ∧ Cp b c8 g6 ∧ c8.length = c6.length ∧ (mvs c8 o).length = (mvs c7 o).length ∧ PoolAt H' p l ∧ Ext [p, l] H H') ⟨c7, _, _, _, rfl, R7, cp7, l7, rfl, P7, e7⟩ ?_ ?_
        · rintro k σ H8 hk ⟨c8, y7, y8, y9, rfl, R8, cp8, l8, lm, P8, e8⟩
          have ho8 : o < c8.length := by omega
          obtain ⟨x, ps, hx, hxl, hps⟩ := R8.get ho8
          have plen := Paired.len hps
          have hk8 : k < (mvs c8 o).length := by omega
          have hp : (mvs c8 o)[k]? = some (mvs c8 o)[k] := List.getElem?_eq_getElem hk8
          generalize (mvs c8 o)[k] = pr at hp
          obtain ⟨nt, hnt, hmv⟩ := Paired.get hps hp
          simp only [Int.zero_add]
          refine ⟨_, rfl, _, rfl, D, _, _, _, rfl, rfl, .of R8.at_, atI_nat (at_map hx), _, rfl, x, _, _, _, rfl, rfl, .of hxl, atI_nat (at_map hnt), nt, _, rfl, hmv, rfl, _, _, rfl, _, _, rfl, rfl, ?_⟩
          -- if to == state and ..
          have stay : ∃ (c8 : Book) (y7 y8 y9 : Option V), ([some (.ref p), some (.ref a), some (.int S), some (.ref D), some (.int i), some (.int s), some (.int o), some (.int k), some (.int pr.1), some (.int pr.2)] : L2.St) = [some (.ref p), some (.ref a), some (.int S), some (.ref D), some (.int i), some (.int s), some (.int o), y7, y8, y9] ∧ RawL K H8 D as6 c8 ∧ Cp b c8 g6 ∧ c8.length = c6.length ∧ (mvs c8 o).length = (mvs c7 o).length ∧ PoolAt H8 p l ∧ Ext [p, l] H H8 := ⟨c8, _, _, _, rfl, R8, cp8, l8, lm, P8, e8⟩
          refine ⟨_, rfl, _, rfl, rfl, _, rfl, ite2 (fun z => ?_) (fun z => iteF stay)⟩
          have ets : pr.2 = s := by
            have z := V.int.inj (of_decide_eq_true z)
            omega
          refine ⟨_, rfl, p, l, 2, rfl, P8, by decide, by decide, fun r H9 r0 r2 P9 e9 => ?_⟩
          have R9 := R8.ext e9 P8.lsts (offF hD) fun x hx => offF (hf6 x hx)
          have e10 := e8.trans e9
          refine ⟨rfl, _, rfl, ite2 (fun z2 => ?_) (fun z2 => ⟨c8, _, _, _, rfl, R9, cp8, l8, lm, P9, e10⟩)⟩
          refine ⟨_, rfl, _, rfl, D, _, rfl, .inl (.of R9.at_), _, _, rfl, rfl, (by show 2 ≤ sizeLine; decide), fun n2 hn2 => ?_⟩
          have e11 : Ext [] H9 (upd H9 n2 (.tup [.int pr.1, .int ((as6.map V.ref).length - 1)])) := .new hn2
          have hxl9 : H9 x = some (.lst (ps.map V.ref)) := e9.at hxl (offF (hf6 x (List.mem_of_getElem? hx)))
          have hps9 : Paired (MvV K H9) ps (mvs c8 o) := Paired.imp hps fun _ _ z => e9.tup P8.lsts z
          have R11 := R9.ext e11 Lsts.nil (by simp) (by simp)
          have hxl11 := e11.at hxl9 (by simp)
          have hps11 : Paired (MvV K (upd H9 n2 (.tup [.int pr.1, .int ((as6.map V.ref).length - 1)]))) ps (mvs c8 o) := Paired.imp hps9 fun _ _ z => z.ext0 e11
          have enew : ((as6.map V.ref).length : Int) - 1 = (c.length : Nat) := by rw [List.length_map, alen, l6]; omega
          have hmv11 : MvV K (upd H9 n2 (.tup [.int pr.1, .int ((as6.map V.ref).length - 1)])) n2 (pr.1, c.length) := by
            refine .of ?_
            rw [upd_same, enew]
          have xH := hf6 x (List.mem_of_getElem? hx)
          refine ⟨_, rfl, _, rfl, D, _, _, _, rfl, rfl, .of R11.at_, atI_nat (at_map hx), _, rfl, x, _, _, k, rfl, rfl, hxl11, ixNat (by rw [List.length_map, plen]; exact hk8), ?_⟩
          rw [← List.map_set]
          exact ⟨c8.set o ((mvs c8 o).set k (pr.1, c.length)), _, _, _, rfl, R11.wr hx (mvs_lt ho8) hxl11 hps11 hmv11, cp8.lead ho8 hp (by omega) (by rw [hnew, ets]), by rw [List.length_set]; exact l8, by rw [mvs_set ho8, if_pos rfl, List.length_set]; exact lm, ((P9.ext0 e11).put (P0.off xH).1 (P0.off xH).2), (e10.trans e11.weak).put' xH⟩
        · rintro σ H8 ⟨c8, y7, y8, y9, rfl, R8, cp8, l8, lm, P8, e8⟩
          exact ⟨c8, _, _, _, _, rfl, R8, cp8, l8, P8, e8⟩
      · rintro σ H7 ⟨c7, y6, y7, y8, y9, rfl, R7, cp7, l7, P7, e7⟩
        exact ⟨c7, g6, as6, _, _, _, _, _, _, rfl, R7, hf6, cp7, by omega, P7, e7⟩
    · rintro σ H3 ⟨c, g, as, y4, y5, y6, y7, y8, y9, rfl, R3, hf, cp, hcS, P3, e3⟩
      have c1 : 1 ≤ c.length := by rw [← cp.len]; exact (List.getElem?_eq_some_iff.mp cp.zero).1
      refine ⟨_, rfl, .ref D, c, rfl, R3.ls, c1, by omega, fun s => ⟨?_, cp.to s⟩, fun F v H4 mt hbk e4 => ?_⟩
      · by_cases hs : s < c.length
        · have so := (fb.ok (cp.lt s hs)).few
          rw [cp.mv s hs, List.length_map] at so
          omega
        · rw [mvs_out (by omega)]
          exact Nat.zero_le _
      · refine q _ _ v H4 (cp.ok fb mt (by omega)) ?_ (cp.hom mt) hbk (P3.ext0 e4) (e3.trans e4.weak)
        rw [rename_len]
        exact Nat.le_trans (nodup_le mt.nd mt.lt) hcS
end
end Nv
set_option Elab.async false
set_option linter.all false
set_option maxRecDepth 100000
namespace Nv
open PySem PySem.Spec PyProof.Rows L2
section
variable {P : Program} {w : World} {K : PySem.W.Frag} {mg : Str → Option Value} {base : Heap}
/-! ### the law's own walks -/
theorem sc_law_book_next : FnScope ["book", "state", "message", "other", "to"] ["book", "state", "message"] (defScope s_law_book_next) := ⟨rfl, rfl, rfl, by decide +kernel, rfl, by decide +kernel, by decide +kernel⟩
def sp_law_book_next (K : PySem.W.Frag) : Sp := fun vs H Q _ => ∃ (v : V) (b : Book) (s : Nat) (p : Nat × Nat), vs = [v, .int s, .int p.1] ∧ BkV K H v b ∧ FormB b ∧ s < b.length ∧ p ∈ mvs b s ∧ ∀ H', Ext [] H H' → Q (.int p.2) H'
theorem ok_law_book_next (T : Tx K mg) : FnOk P w K mg base CX0 1 T.law_book_next.f T.law_book_next.fd ["book", "state", "message"] (sp_law_book_next K) := by
  refine T.law_book_next.F.ok sc_law_book_next (fun vs H Q E h => ?_) (fun cdv A outer s H vs Q E hr h => ?_)
  · obtain ⟨v, b, s, p, rfl, _⟩ := h; rfl
  · obtain ⟨v, b, st, p0, rfl, ⟨a, ls, rfl, ha, hls⟩, fb, hs, hp0, q⟩ := h
    obtain ⟨u, hu, c, ps, rfl, hc, hps⟩ := Paired.get hls (mvs_lt hs)
    have plen := Paired.len hps
    have five := (fb.ok hs).few
    obtain ⟨rest, hrest⟩ := next_head fb hp0
    refine ⟨_, (pss_one (ps_ret (pe_ix ix_list (pe_op op_cat (pe_lc (own := [("other", 3), ("to", 4)]) rfl sc_law_book_next.nd (pi_tup (pe_ix ix_tup (pv 0) (pv 1) (fun _ _ => rfl))) (blkOk_by (own := [("other", 3), ("to", 4)]) (N := ["book", "state", "message", "other", "to"]) (sc := defScope s_law_book_next) (by decide +kernel)) (fun _ _ _ _ _ => (pg_tupK (n := 2) K rfl (pgs_cons (pg_name (i := 3) sc_law_book_next.nd rfl (.inl rfl)) (pgs_cons (pg_name (i := 4) sc_law_book_next.nd rfl (.inl rfl)) pgs_nil)))) (fun _ _ _ _ _ => pts_one (pt_mid (pt_cmpR op_eq (pv 3) (pv 2) (nomark _)))) (fun _ _ _ _ _ => (pv 4))) (pe_lst (pa_cons pe_non pa_nil))) pe_int (fun _ _ => rfl)))), ?_⟩
    refine ⟨_, rfl, _, rfl, a, _, _, _, rfl, rfl, ha, atI_nat hu, c, rfl, ⟨_, hc.sq⟩, fun D hD => ?_⟩
    refine lc_tup (K := K) (a := c) (xs := ps.map V.ref) (fun i H' => H' D = some (.lst (((((mvs b st).take i).filter fun q => decide (q.1 = p0.1)).map (·.2)).map nV)) ∧ Ext [] H H') ⟨by simp; exact upd_same, .new hD⟩ (fun i H' _ ⟨_, e⟩ => (e.tz Lsts.nil hc).sq) ?_ ?_
    · rintro i v H' hv ⟨hX, e⟩
      obtain ⟨g, hg, rfl⟩ := map_at hv
      obtain ⟨p, hpp, hcp⟩ := Paired.get' hps hg
      have hi5 : i < 5 := by
        have := (List.getElem?_eq_some_iff.mp hpp).1
        omega
      refine ⟨g, _, rfl, hcp.ext0 e, rfl, _, _, rfl, _, _, rfl, rfl, rfl, ?_⟩
      refine ⟨fun x H3 => x = decide (p.1 = p0.1) ∧ H3 = H', ⟨_, rfl, _, rfl, rfl, _, rfl, ?_, rfl⟩, ?_⟩
      · show decide (V.int p.1 = V.int p0.1) = _
        rw [dec_int]
        exact decide_eq_decide.mpr (by omega)
      · rintro x H3 ⟨rfl, rfl⟩
        refine ifB (fun hf => ?_) (fun hf => ?_)
        · refine ⟨_, rfl, _, hX, ?_, ?_, e.put hD⟩
          · rw [List.length_map, List.length_map]
            refine small1000 (Nat.le_trans (List.length_filter_le _ _) ?_)
            rw [List.length_take]
            omega
          · rw [upd_same, filter_take _ hpp, hf]
            simp
        · refine ⟨?_, e⟩
          rw [hX, filter_take _ hpp, hf]
          simp
    · rintro H' ⟨hX, e⟩
      rw [List.length_map, plen, List.take_length, hrest] at hX
      have rl : rest.length < 5 := by
        have h1 := congrArg List.length hrest
        rw [List.length_map, List.length_cons] at h1
        have h2 := List.length_filter_le (fun q : Nat × Nat => decide (q.1 = p0.1)) (mvs b st)
        omega
      refine ⟨(by show 1 ≤ sizeLine; decide), fun z hz => ?_⟩
      have hX2 := (Ext.new (L := []) (o := .lst [.non]) hz).at hX (by simp)
      refine ⟨D, z, _, _, rfl, rfl, hX2, upd_same, ?_, fun t ht => ?_⟩
      · rw [List.length_map, List.length_cons]
        exact Nat.le_of_lt (small1000 (by show rest.length + 1 + 1 ≤ 1000; omega))
      · exact ⟨t, _, _, _, rfl, rfl, .of upd_same, atI_nat (j := 0) rfl, q _ ((e.put2 hz).put2 ht)⟩
end
end Nv
set_option Elab.async false
set_option linter.all false
set_option maxRecDepth 100000
namespace Nv
open PySem PySem.Spec PyProof.Rows L2
section
variable {P : Program} {w : World} {K : PySem.W.Frag} {mg : Str → Option Value} {base : Heap}
/-! ### states led to states -/
def ledK (f : Nat → Nat) (F : List Nat) : List (Key × V) := F.map fun x => (kN x, nV (f x))
theorem ledK_keys (f : Nat → Nat) (F : List Nat) : (ledK f F).map (·.1) = F.map kN := by unfold ledK; rw [List.map_map]; rfl
theorem ledK_len (f : Nat → Nat) (F : List Nat) : (ledK f F).length = F.length := by unfold ledK; rw [List.length_map]
theorem ledK_val {f : Nat → Nat} : ∀ {F : List Nat} {x : Nat}, x ∈ F → valV (ledK f F) (kN x) = some (nV (f x))
  | y :: F, x, h => by
    by_cases e : y = x
    · subst e
      exact valV_pos (p := (kN y, nV (f y))) rfl
    · have hm : x ∈ F := (List.mem_cons.mp h).resolve_left fun z => e z.symm
      have := ledK_val (f := f) hm
      show valV ((kN y, nV (f y)) :: ledK f F) (kN x) = _
      rw [valV_neg (p := (kN y, nV (f y))) (fun z => e (kN_inj.mp z)), this]
theorem ledK_none {f : Nat → Nat} {F : List Nat} {x : Nat} (h : x ∉ F) : valV (ledK f F) (kN x) = none := by
  cases e : valV (ledK f F) (kN x) with
  | none => rfl
  | some v =>
    have := valV_key (ledK_keys f F) x
    rw [e, decide_eq_false h] at this
    cases this
theorem ledK_put {f : Nat → Nat} {F : List Nat} {x : Nat} (h : x ∉ F) : putK (ledK f F) (kN x) (nV (f x)) = ledK f (F ++ [x]) := by
  rw [putK_new _ (ledK_none h)]
  unfold ledK
  rw [List.map_append]
  rfl
theorem sc_law_book_led : FnScope ["book", "other", "found", "left", "at", "message", "to", "state"] ["book", "other"] (defScope s_law_book_led) := ⟨rfl, rfl, rfl, by decide +kernel, rfl, by decide +kernel, by decide +kernel⟩
def sp_law_book_led (K : PySem.W.Frag) : Sp := fun vs H Q _ => ∃ (v u : V) (b c : Book) (f : Nat → Nat), vs = [v, u] ∧ BkV K H v b ∧ OkB b ∧ BkV K H u c ∧ FormB c ∧ Hom b c f ∧ ∀ (t : Addr) (H' : Hp), H' t = some (.lst (((List.range b.length).map f).map nV)) → Ext [] H H' → Q (.ref t) H'
theorem ok_law_book_led (T : Tx K mg) : FnOk P w K mg base CX0 3 T.law_book_led.f T.law_book_led.fd ["book", "other"] (sp_law_book_led K) := by
  refine T.law_book_led.F.ok sc_law_book_led (fun vs H Q E h => ?_) (fun cdv A outer s H vs Q E hr h => ?_)
  · obtain ⟨v, u, b, c, f, rfl, _⟩ := h; rfl
  · obtain ⟨v, u, b, c, f, rfl, hb, ok, hc, fc, hm, q⟩ := h
    have fb := ok.toFormB
    obtain ⟨a, ls, rfl, ha, hls⟩ := id hb
    have llen := Paired.len hls
    have h8 := fb.eight
    refine ⟨_, (pss_cons (ps_asg (pe_tup (pa_cons (pe_disp (pps_cons pe_int pe_int pps_nil) (by rfl) (by rfl) (fun z => by cases z) (by decide)) (pa_cons (pe_lst (pa_cons pe_int pa_nil)) pa_nil))) (pg_tup rfl (pgs_cons (pg_name (i := 2) sc_law_book_led.nd rfl (.inr rfl)) (pgs_cons (pg_name (i := 3) sc_law_book_led.nd rfl (.inl rfl)) pgs_nil))))
      (C8.pss_cut (ps_for PassesOwn.never rfl (pi_range1 (by rfl) T.n_range (pa_cons (pe_callB call_len_seq (by rfl) T.n_len PySem.boot_len (pa_cons (pv 0) pa_nil)) pa_nil)) (pg_name (i := 4) sc_law_book_led.nd rfl (.inl rfl))
        (pss_cons (ps_if (pt_cmpR op_eq (pv 4) (pe_callB call_len_seq (by rfl) T.n_len PySem.boot_len (pa_cons (pv 3) pa_nil)) (nomark _))
          (pss_one ps_break)
          pss_nil)
        (pss_one (ps_for PassesOwn.never rfl (pi_tup (pe_ix ix_tup (pv 0) (pe_ix ix_list (pv 3) (pv 4) (fun _ _ => rfl)) (fun _ _ => rfl))) (pg_tup rfl (pgs_cons (pg_name (i := 5) sc_law_book_led.nd rfl (.inl rfl)) (pgs_cons (pg_name (i := 6) sc_law_book_led.nd rfl (.inl rfl)) pgs_nil)))
          (pss_one (ps_if (pt_cmp (pc_dnotin (hu_of hr) (pv 6) (pv 2)))
            (pss_cons (ps_dput (hu_of hr) (pv 2) (pv 6) (pe_call (ok_law_book_next T) (hr.mono (by decide)) (by rfl) T.law_book_next.g T.law_book_next.F.kp T.law_book_next.b .nil pass0 (pa_cons (pv 1) (pa_cons (pe_dget (hu_of hr) (pv 2) (pe_ix ix_list (pv 3) (pv 4) (fun _ _ => rfl)) (fun _ _ => rfl)) (pa_cons (pv 5) pa_nil)))) rfl)
            (pss_one (ps_expr (pe_bm PySem.F.plainAttrs_list PySem.F.slot_list_append PySem.F.type_list_append mt_append (pv 3) (pa_cons (pv 6) pa_nil)))))
            pss_nil))))))
      (pss_one (ps_ret (pe_lc (own := [("state", 7)]) rfl sc_law_book_led.nd (pi_range1 (by rfl) T.n_range (pa_cons (pe_callB call_len_seq (by rfl) T.n_len PySem.boot_len (pa_cons (pv 0) pa_nil)) pa_nil)) (blkOk_by (own := [("state", 7)]) (N := ["book", "other", "found", "left", "at", "message", "to", "state"]) (sc := defScope s_law_book_led) (by decide +kernel)) (fun _ _ _ _ _ => (pg_name (i := 7) sc_law_book_led.nd rfl (.inl rfl))) (fun _ _ _ _ _ => pts_nil) (fun _ _ _ _ _ => (pe_dget (hu_of hr) (pv 2) (pv 7) (fun _ _ => rfl)))))))), ?_⟩
    -- found, left
    refine fun d hd => ?_
    have e1 : Ext [] H (upd H d (.dK [])) := .new hd
    refine ⟨upd_same, [(kN 0, nV 0)], rfl, (by show 1 ≤ 15; decide), ?_⟩
    have e3 := e1.put (o := .dK (mergeK [] [(kN 0, nV 0)])) hd
    have hd3 : upd (upd H d (.dK [])) d (.dK (mergeK [] [(kN 0, nV 0)])) d = some (.dK (ledK f [0])) := by
      rw [upd_same]
      unfold ledK
      rw [List.map_cons, hm.zero]
      rfl
    generalize upd (upd H d (.dK [])) d (.dK (mergeK [] [(kN 0, nV 0)])) = H3 at *
    refine ⟨(by show 1 ≤ sizeLine; decide), fun lf hlf => ⟨(by show 2 ≤ sizeLine; decide), fun t ht => ?_⟩⟩
    have dl : d ≠ lf := ne_of_none hd3 hlf
    have e4 : Ext [] H3 (upd H3 lf (.lst [.int 0])) := .new hlf
    have e5 := e4.trans (Ext.new (L := []) (o := .tup [.ref d, .ref lf]) ht)
    have hlfH : H lf = none := e3.free hlf
    refine ⟨t, _, rfl, .of upd_same, rfl, _, _, rfl, _, _, rfl, rfl, ?_⟩
    have hd5 := e5.at hd3 (by simp)
    have hl5 : upd (upd H3 lf (.lst [.int 0])) t (.tup [.ref d, .ref lf]) lf = some (.lst ([0].map nV)) := (Ext.new (L := []) ht).at upd_same (by simp)
    have e6 := e3.trans e5
    clear e5 e4 e1 ht hlf e3 hd3
    generalize upd (upd H3 lf (.lst [.int 0])) t (.tup [.ref d, .ref lf]) = H5 at *
    refine ⟨fun σ H' => ∃ (F : List Nat) (y4 y5 y6 : Option V), σ = [some (.ref a), some u, some (.ref d), some (.ref lf), y4, y5, y6, none] ∧ Met b F ∧ Ext [] H H' ∧ H' d = some (.dK (ledK f F)), ?_, ?_⟩
    · refine ⟨_, rfl, a, _, rfl, .inr (e6.tup Lsts.nil ha), _, rfl, by omega, by omega, for_range (lo := 0) (n := _) (fun i σ H' => ∃ (F : List Nat) (y4 y5 y6 : Option V), σ = [some (.ref a), some u, some (.ref d), some (.ref lf), y4, y5, y6, none] ∧ MetI b F i ∧ Ext [] H H' ∧ H' d = some (.dK (ledK f F)) ∧ H' lf = some (.lst (F.map nV))) ⟨[0], _, _, _, rfl, .first fb.one, e6, hd5, hl5⟩ ?_ ?_⟩
      · rintro i σ H' hi ⟨F, y4, y5, y6, rfl, mi, e, hD, hF⟩
        simp only [Int.zero_add]
        have hin : i < b.length := by
          have : ((ls.length : Int)).toNat = ls.length := Int.toNat_natCast _
          omega
        refine ⟨_, rfl, _, rfl, lf, _, rfl, .inl (.of hF), rfl, _, rfl, ?_⟩
        rw [dec_int]
        refine ite2 (fun z => ?_) (fun z => ?_)
        · have z := of_decide_eq_true z
          rw [List.length_map] at z
          exact ⟨F, _, _, _, rfl, mi.met (.inl (by omega)), e, hD⟩
        · have z : ¬ ((i : Int) = ((F.map nV).length : Int)) := fun y => z (decide_eq_true y)
          rw [List.length_map] at z
          have hiF : i < F.length := by have := mi.le; omega
          have hs : F[i]? = some F[i] := List.getElem?_eq_getElem hiF
          generalize F[i] = x at hs
          have hx : x < b.length := mi.lt x (List.mem_of_getElem? hs)
          obtain ⟨z0, hz0, g0, ps, rfl, hg0, hps⟩ := Paired.get hls (mvs_lt hx)
          have plen := Paired.len hps
          refine ⟨_, rfl, _, rfl, _, rfl, lf, _, _, _, rfl, rfl, .of hF, atI_nat (at_map hs), a, _, _, _, rfl, rfl, e.tup Lsts.nil ha, atI_nat hz0, g0, rfl, ⟨_, e.tup Lsts.nil hg0.sq⟩, ?_⟩
          refine for_tup (K := K) (a := g0) (xs := ps.map V.ref) (fun k σ H' => ∃ (F : List Nat) (y5 y6 : Option V), σ = [some (.ref a), some u, some (.ref d), some (.ref lf), some (.int i), y5, y6, none] ∧ MetW b F i x k ∧ Ext [] H H' ∧ H' d = some (.dK (ledK f F)) ∧ H' lf = some (.lst (F.map nV))) ⟨F, _, _, rfl, mi.begin hs, e, hD, hF⟩ (fun k σ H' _ ⟨_, _, _, _, _, e, _⟩ => e.tup Lsts.nil hg0.sq) ?_ ?_
          · rintro k v σ H' hv ⟨F, y5, y6, rfl, mw, e, hD, hF⟩
            obtain ⟨g, hg, rfl⟩ := map_at hv
            obtain ⟨p, hp, hcp⟩ := Paired.get' hps hg
            have hcp := hcp.ext0 e
            have pm := List.mem_of_getElem? hp
            have pb : p.2 < b.length := fb.to pm
            have Fle : F.length ≤ b.length := nodup_le mw.nd mw.lt
            have hsF : F[i]? = some x := mw.here
            refine ⟨g, _, rfl, hcp, rfl, _, _, rfl, _, _, rfl, rfl, ?_⟩
            refine ⟨_, rfl, _, rfl, d, _, rfl, DGet.k (k := kN p.2) hD, _, rfl, ?_⟩
            by_cases hin : p.2 ∈ F
            · rw [ledK_val hin]
              exact iteF ⟨F, _, _, rfl, mw.skip hp hin, e, hD, hF⟩
            · rw [ledK_none hin]
              refine iteT ⟨_, rfl, _, rfl, _, rfl, _, rfl, lf, _, _, _, rfl, rfl, .of hF, atI_nat (at_map hsF), d, nV (f x), rfl, by rw [← ledK_val (f := f) (List.mem_of_getElem? hsF)]; exact DGet.k (k := kN x) hD, _, rfl, u, c, f x, (p.1, f p.2), rfl, hc.ext0 e, fc, hm.lt x hx, by rw [hm.mv x hx]; exact List.mem_map.mpr ⟨p, pm, rfl⟩, fun H4 e4 => ?_⟩
              have hD4 := e4.at hD (by simp)
              have hF4 := e4.at hF (by simp)
              refine ⟨_, rfl, _, rfl, d, _, rfl, DPut.k (k := kN p.2) hD4 (small1000 (by rw [ledK_len]; omega)), ?_⟩
              have hput : putK (ledK f F) (kN p.2) (V.int (f p.2 : Nat)) = ledK f (F ++ [p.2]) := ledK_put hin
              rw [hput]
              have hF5 : upd H4 d (.dK (ledK f (F ++ [p.2]))) lf = some (.lst (F.map nV)) := by rw [upd_ne dl.symm]; exact hF4
              refine ⟨_, rfl, .inl ⟨rfl, _, .of hF5⟩, _, rfl, lf, _, _, rfl, rfl, hF5, by rw [List.length_map]; exact small1000 (by omega), F ++ [p.2], _, _, rfl, mw.push hp hin pb, ((e.trans e4).put hd).put hlfH, by rw [upd_ne dl]; exact upd_same, ?_⟩
              rw [upd_same, List.map_append]
              rfl
          · rintro σ H' ⟨F, y5, y6, rfl, mw, e, hD, hF⟩
            exact ⟨F, _, _, _, rfl, mw.done (by rw [List.length_map, plen]; exact Nat.le_refl _), e, hD, hF⟩
      · rintro σ H' ⟨F, y4, y5, y6, rfl, mi, e, hD, hF⟩
        exact ⟨F, _, _, _, rfl, mi.met (.inr (by rw [Int.toNat_natCast, llen])), e, hD⟩
    · rintro σ H1 ⟨F, y4, y5, y6, rfl, mt, e1, hD⟩
      refine ⟨_, rfl, a, _, rfl, .inr (e1.tup Lsts.nil ha), _, rfl, by omega, by omega, fun D hDn => ?_⟩
      rw [forTo llen]
      refine lc_range (lo := 0) (n := b.length) (fun i H' => H' D = some (.lst (((List.range i).map f).map nV)) ∧ Ext [] H1 H') ⟨upd_same, .new hDn⟩ ?_ ?_
      · rintro m H' hm' ⟨hX, e⟩
        simp only [Int.zero_add]
        refine ⟨rfl, yes ?_⟩
        refine ⟨_, rfl, _, rfl, d, nV (f m), rfl, by rw [← ledK_val (f := f) (met_all ok mt hm')]; exact DGet.k (k := kN m) (e.at hD (by simp)), ?_⟩
        refine ⟨_, hX, ?_, ?_, e.put hDn⟩
        · rw [List.length_map, List.length_map, List.length_range]
          exact small1000 (by omega)
        · rw [upd_same, List.range_succ, List.map_append, List.map_append]
          rfl
      · rintro H2 ⟨hX, e⟩
        exact q D H2 hX (e1.trans e)
/-! ### ranks and lasting states go along -/
theorem sc_law_led_right : FnScope ["book", "least", "windows", "led", "window", "kept", "state", "at"] ["book", "least", "windows"] (defScope s_law_led_right) := ⟨rfl, rfl, rfl, by decide +kernel, rfl, by decide +kernel, by decide +kernel⟩
def sp_law_led_right (K : PySem.W.Frag) : Sp := fun vs H Q _ => ∃ (v u : V) (t : Addr) (b c : Book) (f : Nat → Nat) (ws : List Nat), vs = [v, u, .ref t] ∧ BkV K H v b ∧ OkB b ∧ BkV K H u c ∧ OkB c ∧ Hom b c f ∧ H t = some (.lst (ws.map nV)) ∧ (∀ W ∈ ws, 1 ≤ W) ∧ ∀ H', Ext [] H H' → Q (.bl true) H'
theorem ok_law_led_right (T : Tx K mg) : FnG P w K mg base CX0 8 T.law_led_right.f T.law_led_right.fd ["book", "least", "windows"] (sp_law_led_right K) := by
  refine FunG.ok T.law_led_right.F sc_law_led_right (fun vs H Q E h => ?_) (fun cdv A outer s H vs Q E hG hr h => ?_)
  · obtain ⟨v, u, t, b, c, f, ws, rfl, _⟩ := h; rfl
  · obtain ⟨v, u, t, b, c, f, ws, rfl, hb, ok, hc, oc, hm, ht, hW, q⟩ := h
    have fb := ok.toFormB
    have h8 := fb.eight
    refine ⟨_, (pss_cons (ps_set (i := 3) sc_law_led_right.nd rfl (.inl rfl) (pe_call (ok_law_book_led T) (hr.mono (by decide)) (by rfl) T.law_book_led.g T.law_book_led.F.kp T.law_book_led.b .nil pass0 (pa_cons (pv 0) (pa_cons (pv 1) pa_nil))))
      (pss_cons (ps_for PassesOwn.never rfl (pi_list (pv 2)) (pg_name (i := 4) sc_law_led_right.nd rfl (.inl rfl))
        (pss_cons (ps_set (i := 5) sc_law_led_right.nd rfl (.inr rfl) (pe_call (ok_ranks T) (hr.mono (by decide)) (by rfl) T.ranks.g T.ranks.F.kp T.ranks.b .nil pass0 (pa_cons (pv 1) (pa_cons (pv 4) pa_nil))))
        (pss_cons (ps_if (pt_cmpR op_ne (pe_callB (call_reprA hr.units hG) (by rfl) T.n_repr (by decide +kernel) (pa_cons (pe_call (ok_ranks T) (hr.mono (by decide)) (by rfl) T.ranks.g T.ranks.F.kp T.ranks.b .nil pass0 (pa_cons (pv 0) (pa_cons (pv 4) pa_nil))) pa_nil)) (pe_callB (call_reprA hr.units hG) (by rfl) T.n_repr (by decide +kernel) (pa_cons (pe_callTy call_tupZ (by rfl) T.n_tuple (by decide +kernel) (pa_cons (pe_lc (own := [("state", 6)]) rfl sc_law_led_right.nd (pi_list (pv 3)) (blkOk_by (own := [("state", 6)]) (N := ["book", "least", "windows", "led", "window", "kept", "state", "at"]) (sc := defScope s_law_led_right) (by decide +kernel)) (fun _ _ _ _ _ => (pg_name (i := 6) sc_law_led_right.nd rfl (.inl rfl))) (fun _ _ _ _ _ => pts_nil) (fun _ _ _ _ _ => (pe_ix (ix_tupK K) (pv 5) (pv 6) (fun _ _ => rfl)))) pa_nil)) pa_nil)) (nomark _))
          (pss_one (ps_ret pe_bl))
          pss_nil)
        (pss_one (ps_if (pt_cmpR op_ne (pe_callB (call_reprA hr.units hG) (by rfl) T.n_repr (by decide +kernel) (pa_cons (pe_call (ok_lasting T) (hr.mono (by decide)) (by rfl) T.lasting.g T.lasting.F.kp T.lasting.b .nil pass0 (pa_cons (pv 0) (pa_cons (pv 4) pa_nil))) pa_nil)) (pe_callB (call_reprA hr.units hG) (by rfl) T.n_repr (by decide +kernel) (pa_cons (pe_callTy call_tupZ (by rfl) T.n_tuple (by decide +kernel) (pa_cons (pe_lc (own := [("at", 7), ("state", 6)]) rfl sc_law_led_right.nd (pi_enum (by rfl) T.n_enumerate (pa_cons (pv 3) pa_nil)) (blkOk_by (own := [("at", 7), ("state", 6)]) (N := ["book", "least", "windows", "led", "window", "kept", "state", "at"]) (sc := defScope s_law_led_right) (by decide +kernel)) (fun _ _ _ _ _ => (pg_tupK (n := 2) K rfl (pgs_cons (pg_name (i := 7) sc_law_led_right.nd rfl (.inl rfl)) (pgs_cons (pg_name (i := 6) sc_law_led_right.nd rfl (.inl rfl)) pgs_nil)))) (fun _ _ _ _ _ => pts_one (pt_mid (pt_cmpR op_eq (pe_ix (ix_tupK K) (pv 5) (pv 6) (fun _ _ => rfl)) (pe_un un_neg pe_int) (nomark _)))) (fun _ _ _ _ _ => (pv 7))) pa_nil)) pa_nil)) (nomark _))
          (pss_one (ps_ret pe_bl))
          pss_nil)))))
      (pss_one (ps_ret pe_bl)))), ?_⟩
    refine ⟨_, rfl, _, rfl, v, u, b, c, f, rfl, hb, ok, hc, oc.toFormB, hm, fun t1 H1 ht1 e1 => ?_⟩
    refine ⟨_, rfl, t, rfl, ⟨_, .of (e1.at ht (by simp))⟩, ?_⟩
    refine for_list (K := K) (a := t) (xs := ws.map nV) (fun i σ H' => ∃ (y4 y5 : Option V), σ = [some v, some u, some (.ref t), some (.ref t1), y4, y5, none, none] ∧ Ext [] H1 H') ⟨_, _, rfl, .refl⟩ (fun i σ H' _ ⟨_, _, _, e⟩ => .of ((e1.trans e).at ht (by simp))) ?_ ?_
    · rintro i x σ H2 hv ⟨y4, y5, rfl, e2⟩
      obtain ⟨W, hWi, rfl⟩ := map_at hv
      have W1 := hW W (List.mem_of_getElem? hWi)
      have e12 := e1.trans e2
      have ht2 := e2.at ht1 (by simp)
      -- kept
      refine ⟨_, rfl, _, rfl, u, c, W, rfl, hc.ext0 e12, oc, W1, fun res' fin' kt H3 hL' hkt e3 => ?_⟩
      -- ranks(book, window)
      refine ⟨_, rfl, _, rfl, v, b, W, rfl, hb.ext0 (e12.trans e3), ok, W1, fun res fin rt H4 hL hrt e4 => ?_⟩
      have rl := last_len hL
      have rl' := last_len hL'
      have rk := hm.ranks fb oc hL hL'
      have sh : ShowOk (.tuple (res.map oD)) := show_o (last_small fb hL) (by omega)
      refine ⟨_, _, rfl, .tup hrt (dp_o res), sh, ?_⟩
      have ht4 := (e3.trans e4).at ht2 (by simp)
      have hkt4 := e4.tup Lsts.nil hkt
      refine ⟨_, rfl, t1, rfl, ⟨_, .of ht4⟩, fun D hD => ?_⟩
      have get' : ∀ {j : Nat}, j < b.length → ∃ o, res[j]? = some o ∧ res'[f j]? = some o := by
        intro j hj
        have : res[j]? = some res[j] := List.getElem?_eq_getElem (by omega)
        exact ⟨_, this, by rw [← rk j hj]; exact this⟩
      refine lc_list (K := K) (a := t1) (xs := ((List.range b.length).map f).map nV) (fun j H' => H' D = some (.lst ((res.take j).map oV)) ∧ Ext [] H4 H') ⟨by simp; exact upd_same, .new hD⟩ (fun j H' _ ⟨_, e⟩ => .of (e.at ht4 (by simp))) ?_ ?_
      · rintro j z H' hz ⟨hX, e⟩
        obtain ⟨s, hs, rfl⟩ := map_at hz
        rw [List.getElem?_map] at hs
        have hj : j < b.length := by
          by_cases hj : j < b.length
          · exact hj
          · rw [List.getElem?_eq_none (by rw [List.length_range]; omega)] at hs
            cases hs
        rw [List.getElem?_range hj] at hs
        obtain rfl := Option.some.inj hs
        obtain ⟨o, ho, ho'⟩ := get' hj
        refine ⟨rfl, yes ?_⟩
        refine ⟨_, rfl, _, rfl, kt, _, _, _, rfl, rfl, e.tup Lsts.nil hkt4, atI_nat (at_map ho'), ?_⟩
        refine ⟨_, hX, ?_, ?_, e.put hD⟩
        · rw [List.length_map, List.length_take]
          exact small1000 (by omega)
        · rw [upd_same, List.take_add_one, ho, List.map_append]
          rfl
      rintro H5 ⟨hX, e5⟩
      rw [List.take_of_length_le (by rw [List.length_map, List.length_map, List.length_range]; omega)] at hX
      refine ⟨D, _, rfl, .of hX, fun tt H6 htt hH6 => ?_⟩
      obtain ⟨o6, _, rfl⟩ := hH6
      have e6 : Ext [] H5 (upd H5 tt (.frz o6 (.tup (res.map oV)))) := .new htt
      refine ⟨_, _, rfl, .tup (.inl (.inr ⟨o6, upd_same⟩)) (dp_o res), sh, rfl, _, rfl, ?_⟩
      rw [str_ne]
      refine iteF ?_
      have e26 := (((e3.trans e4).trans e5).trans e6)
      have hkt6 := (e5.trans e6).tup Lsts.nil hkt4
      have ht6 := (e5.trans e6).at ht4 (by simp)
      clear htt hX e6
      generalize upd H5 tt (.frz o6 (.tup (res.map oV))) = H6 at *
      -- lasting
      refine ⟨_, rfl, _, rfl, v, b, W, rfl, hb.ext0 (e12.trans e26), ok, W1, fun res2 fin2 tl H7 hL2 htl e7 => ?_⟩
      obtain rfl := last_fun hL hL2
      have ll8 : (lastL b res).length ≤ 8 := Nat.le_trans (List.length_filter_le _ _) (by rw [List.length_range]; exact h8)
      have shl : ShowOk (.tuple ((someN (lastL b res)).map oD)) := show_o (small_nats fun n hn => by have := (mem_filt.mp hn).1; omega) (by unfold someN; rw [List.length_map]; exact ll8)
      refine ⟨_, _, rfl, .tup htl (dp_nats _), shl, ?_⟩
      have hkt7 := e7.tup Lsts.nil hkt6
      have ht7 := e7.at ht6 (by simp)
      refine ⟨_, rfl, t1, _, rfl, .of ht7, fun D5 hD5 => ?_⟩
      refine lc_it (walk_enum (K := K) (a := t1) (xs := ((List.range b.length).map f).map nV)) (fun j H' => H' D5 = some (.lst ((((List.range b.length).take j).filter fun s => decide (res[s]? = some (some (-1)))).map nV)) ∧ Ext [] H7 H') ⟨upd_same, .new hD5⟩ (fun j H' _ ⟨_, e⟩ => .of (e.at ht7 (by simp))) ?_ ?_
      · rintro j z Hd H' hj ⟨hD6, e6⟩ ⟨T', x', y', rfl, hT, rfl, hx', hy'⟩
        cases hx'
        have hj : j < b.length := by
          rw [List.length_map, List.length_map, List.length_range] at hj
          exact hj
        have hri : (List.range b.length)[j]? = some j := List.getElem?_range hj
        have hy' : (((List.range b.length).map f).map nV)[j]? = some y' := hy'
        rw [List.getElem?_map, List.getElem?_map, hri] at hy'
        obtain rfl := Option.some.inj hy'
        obtain ⟨o, ho, ho'⟩ := get' hj
        have e7' := e6.put2 (o := .tup [.int j, nV (f j)]) hT
        have hD7 : upd Hd T' (.tup [.int j, nV (f j)]) D5 = _ := (upd_ne (ne_of_none hD6 hT)).trans hD6
        refine ⟨T', _, rfl, .of upd_same, rfl, _, _, rfl, _, _, rfl, rfl, rfl, ?_⟩
        refine ⟨fun x H3 => x = decide (res[j]? = some (some (-1))) ∧ H3 = upd Hd T' (.tup [.int j, nV (f j)]), ⟨_, rfl, _, rfl, kt, _, _, _, rfl, rfl, e7'.tup Lsts.nil hkt7, atI_nat (at_map ho'), 1, rfl, by cases o <;> rfl, _, rfl, ?_, rfl⟩, ?_⟩
        · rw [ho]
          refine decide_eq_decide.mpr ?_
          cases o with
          | none => exact ⟨fun z => (nomatch z), fun z => (nomatch z)⟩
          | some u =>
            constructor
            · intro z
              have z : u = -1 := V.int.inj z
              rw [z]
            · intro z
              have z : u = -1 := Option.some.inj (Option.some.inj z)
              rw [z]
              rfl
        · rintro x H3 ⟨rfl, rfl⟩
          refine ifB (fun hf => ?_) (fun hf => ?_)
          · refine ⟨_, rfl, _, hD7, ?_, ?_, e7'.put hD5⟩
            · rw [List.length_map]
              refine small1000 (Nat.le_trans (List.length_filter_le _ _) ?_)
              rw [List.length_take]
              omega
            · rw [upd_same, filter_take _ hri, hf]
              simp
          · refine ⟨?_, e7'⟩
            rw [hD7, filter_take _ hri, hf]
            simp
      · rintro Hd ⟨hD6, e6⟩
        rw [List.take_of_length_le (by rw [List.length_map, List.length_map, List.length_range]; omega)] at hD6
        have hD6 : Hd D5 = some (.lst ((lastL b res).map nV)) := hD6
        refine ⟨D5, _, rfl, .of hD6, fun t2 He ht2 hHe => ?_⟩
        obtain ⟨oo, _, rfl⟩ := hHe
        refine ⟨_, _, rfl, .tup (.inl (.inr ⟨oo, upd_same⟩)) (dp_nats _), shl, rfl, _, rfl, ?_⟩
        rw [str_ne]
        exact iteF ⟨_, _, rfl, ((e2.trans e26).trans e7).trans (e6.put2 ht2)⟩
    · rintro σ H2 ⟨y4, y5, rfl, e2⟩
      exact q H2 (e1.trans e2)
end
end Nv
set_option Elab.async false
set_option linter.all false
set_option maxRecDepth 100000
namespace Nv
open PySem PySem.Spec PyProof.Rows L2
section
variable {P : Program} {w : World} {K : PySem.W.Frag} {mg : Str → Option Value} {base : Heap}
/-! ### are the numbers right -/
def nD : Option Nat → PyData
  | none => .none
  | some n => .int (n : Int)
theorem dp_nD {K : PySem.W.Frag} {H : Hp} (o : Option Nat) : Dp K H (oN o) (nD o) := by
  cases o with
  | none => exact .non
  | some n => exact .int _
theorem show_nD {o : Option Nat} (h : ∀ n, o = some n → n ≤ 9) : ShowOk (nD o) := by
  cases o with
  | none => exact ⟨rfl, rfl, by decide, Nat.le_of_lt (small1000 (by decide +kernel))⟩
  | some n =>
    have h9 := h n rfl
    have : n = 0 ∨ n = 1 ∨ n = 2 ∨ n = 3 ∨ n = 4 ∨ n = 5 ∨ n = 6 ∨ n = 7 ∨ n = 8 ∨ n = 9 := by omega
    rcases this with rfl | rfl | rfl | rfl | rfl | rfl | rfl | rfl | rfl | rfl <;> exact ⟨by decide +kernel, rfl, by decide +kernel, Nat.le_of_lt (small1000 (by decide +kernel))⟩
theorem leastN_le {b : Book} {n : Nat} (h : leastN b = some n) : n ≤ 3 := by
  unfold leastN at h
  split at h
  · cases h; omega
  · split at h
    · cases h; omega
    · unfold freeM at h
      split at h
      · split at h <;> cases h <;> omega
      · cases h
/-- what is shown of the least number -/
theorem winR_data {b : Book} {u x : V} (h : WinR b u x) : ∃ o : Option Nat, x = oN o ∧ ∀ n, o = some n → n ≤ 3 := by
  rcases h with ⟨_, rfl⟩ | ⟨W, _, _, rfl⟩
  · exact ⟨_, rfl, fun n h => leastN_le h⟩
  · exact ⟨some (lwF b W), rfl, fun n h => by cases h; exact lwF_le b W⟩
theorem show_pair {l : List Nat} (hl : ∀ n ∈ l, n ≤ 3) (h9 : l.length ≤ 9) {o : Option Nat} (ho : ∀ n, o = some n → n ≤ 3) : ShowOk (.tuple [.tuple ((someN l).map oD), nD o]) := by
  have sm : Small (someN l) := small_nats fun n hn => by have := hl n hn; omega
  have leaf : PyData.leavesShort 8 (nD o) = true ∧ PyData.bulk (nD o) = 0 ∧ (nD o).showable = true ∧ (nD o).hasDict = false ∧ (nD o).depth = 0 := by
    cases o with
    | none => exact ⟨rfl, rfl, rfl, rfl, rfl⟩
    | some n =>
      have h3 := ho n rfl
      refine ⟨int_short (by omega) (by omega), rfl, ?_, rfl, rfl⟩
      exact decide_eq_true (Nat.lt_of_le_of_lt (Nat.log2_le_self _) (by omega))
  obtain ⟨a1, a2, a3, a4, a5⟩ := leaf
  have b1 := o_short (someN l) sm
  have b2 := o_bulk (someN l)
  have b3 := o_show (someN l) sm
  have b4 := o_nodict (someN l)
  have b5 := o_depth (someN l)
  have sl : (someN l).length ≤ 9 := by unfold someN; rw [List.length_map]; exact h9
  refine show_mk (n := 20) ?_ ?_ ?_ ?_ ?_ (by omega)
  · simp [PyData.showable, PyData.showableAll, b3, a3]
  · simp [PyData.hasDict, PyData.hasDictAll, b4, a4]
  · simp [PyData.depth, PyData.depthAll, b5, a5]
  · simp [PyData.leavesShort, PyData.leavesShortAll, b1, a1]
  · simp only [PyData.bulk, PyData.bulkAll, b2, a2]
    omega
theorem nine_le (b : Book) : (∀ n ∈ nineL b, n ≤ 3) ∧ (nineL b).length ≤ 9 := by
  refine ⟨fun n hn => ?_, by unfold nineL; rw [List.length_map, List.length_range]; exact Nat.le_refl _⟩
  obtain ⟨i, _, rfl⟩ := List.mem_map.mp hn
  exact lwF_le _ _
theorem nine_at {b : Book} {i : Nat} (h : i < 9) : (nineL b)[i]? = some (lwF b (i + 1)) := by
  unfold nineL
  rw [List.getElem?_map, List.getElem?_range h]
  rfl
end
end Nv
set_option Elab.async false
set_option linter.all false
set_option maxRecDepth 100000
namespace Nv
open PySem PySem.Spec PyProof.Rows L2
section
variable {P : Program} {w : World} {K : PySem.W.Frag} {mg : Str → Option Value} {base : Heap}
/-! ### the law -/
theorem Hom.id (b : Book) : Hom b b fun s => s where
  zero := rfl
  lt := fun s hs => hs
  mv := fun s hs => by
    show mvs b s = _
    conv => lhs; rw [← List.map_id (mvs b s)]
    rfl
theorem from_ex (b : Book) : ∃ o, FromW b o := by
  have key : ∀ n, (∃ W, 1 ≤ W ∧ W ≤ n ∧ lwF b W = 3 ∧ ∀ V, 1 ≤ V → V < W → lwF b V ≠ 3) ∨ ∀ V, 1 ≤ V → V ≤ n → lwF b V ≠ 3 := by
    intro n
    induction n with
    | zero => exact .inr fun V h1 h2 => by omega
    | succ n ih =>
      rcases ih with ⟨W, h1, h2, h3, h4⟩ | h
      · exact .inl ⟨W, h1, by omega, h3, h4⟩
      · by_cases e : lwF b (n + 1) = 3
        · exact .inl ⟨n + 1, by omega, Nat.le_refl _, e, fun V h1 h2 => h V h1 (by omega)⟩
        · refine .inr fun V h1 h2 => ?_
          by_cases ev : V = n + 1
          · rw [ev]; exact e
          · exact h V h1 (by omega)
  rcases key 9 with ⟨W, h1, h2, h3, h4⟩ | h
  · obtain ⟨res, fin, hL⟩ := last_ex b W
    exact ⟨some W, h1, h2, ⟨res, fin, hL, by rw [lwF_eq hL]; exact h3⟩, fun V a b' res' fin' hL' => by rw [lwF_eq hL']; exact h4 V a b'⟩
  · exact ⟨none, fun V a b' res' fin' hL' => by rw [lwF_eq hL']; exact h V a b'⟩
open Classical in
/-- the first window for three wires -/
noncomputable def frmO (b : Book) : Option Nat := if h : ∃ o, FromW b o then choose h else none
theorem frmO_eq {b : Book} (ok : OkB b) {o : Option Nat} (h : FromW b o) : o = frmO b := by
  have ex : ∃ o, FromW b o := ⟨o, h⟩
  unfold frmO
  rw [dif_pos ex]
  exact (Hom.id b).from_ ok.toFormB ok h (Classical.choose_spec ex)
theorem oN_le {b : Book} {o : Option Nat} (h : FromW b o) : ∀ n, o = some n → n ≤ 9 := fun n e => by
  subst e
  exact h.2.1
theorem num_short {n : Nat} (h : n ≤ 9) : PyData.leavesShort 8 (.int (n : Int)) = true := by
  have : n = 0 ∨ n = 1 ∨ n = 2 ∨ n = 3 ∨ n = 4 ∨ n = 5 ∨ n = 6 ∨ n = 7 ∨ n = 8 ∨ n = 9 := by omega
  rcases this with rfl | rfl | rfl | rfl | rfl | rfl | rfl | rfl | rfl | rfl <;> decide +kernel
noncomputable def told3 (b : Book) (o : Option Nat) : PyData := .tuple [.tuple [.tuple ((someN (nineL b)).map oD), nD (leastN b)], nD o]
theorem show_told {b : Book} {o : Option Nat} (ho : ∀ n, o = some n → n ≤ 9) : ShowOk (told3 b o) := by
  have hl := (nine_le b).1
  have h9 := (nine_le b).2
  have sm : Small (someN (nineL b)) := small_nats fun n hn => by have := hl n hn; omega
  have leafs : ∀ {o : Option Nat}, (∀ n, o = some n → n ≤ 9) → PyData.leavesShort 8 (nD o) = true ∧ PyData.bulk (nD o) = 0 ∧ (nD o).showable = true ∧ (nD o).hasDict = false ∧ (nD o).depth = 0 := by
    intro o ho
    cases o with
    | none => exact ⟨rfl, rfl, rfl, rfl, rfl⟩
    | some n =>
      have h3 := ho n rfl
      refine ⟨num_short h3, rfl, ?_, rfl, rfl⟩
      exact decide_eq_true (Nat.lt_of_le_of_lt (Nat.log2_le_self _) (by omega))
  obtain ⟨a1, a2, a3, a4, a5⟩ := leafs (o := leastN b) fun n h => by have := leastN_le h; omega
  obtain ⟨c1, c2, c3, c4, c5⟩ := leafs ho
  have b1 := o_short (someN (nineL b)) sm
  have b2 := o_bulk (someN (nineL b))
  have b3 := o_show (someN (nineL b)) sm
  have b4 := o_nodict (someN (nineL b))
  have b5 := o_depth (someN (nineL b))
  have sl : (someN (nineL b)).length ≤ 9 := by unfold someN; rw [List.length_map]; exact h9
  unfold told3
  refine show_mk (n := 30) ?_ ?_ ?_ ?_ ?_ (by omega)
  · simp [PyData.showable, PyData.showableAll, b3, a3, c3]
  · simp [PyData.hasDict, PyData.hasDictAll, b4, a4, c4]
  · simp [PyData.depth, PyData.depthAll, b5, a5, c5]
  · simp [PyData.leavesShort, PyData.leavesShortAll, b1, a1, c1]
  · simp only [PyData.bulk, PyData.bulkAll, b2, a2, c2]
    omega
def spLaw (K : PySem.W.Frag) : Sp := fun vs H Q _ => ∃ (a : Addr) (ns : List Int), vs = [.ref a] ∧ SqL K H a (ns.map V.int) ∧ ns.length ≤ 63 ∧ ∀ H', Q (.bl true) H'
theorem sc_law : FnScope ["script", "pool", "book", "copied", "least", "told", "windows", "some"] ["script"] (defScope s_law) := ⟨rfl, rfl, rfl, by decide +kernel, rfl, by decide +kernel, by decide +kernel⟩
theorem ok_law (T : Tx K mg) : FnG P w K mg base CX0 10 T.law.f T.law.fd ["script"] (spLaw K) := by
  refine FunG.ok T.law.F sc_law (fun vs H Q E h => ?_) (fun cdv A outer s H vs Q E hG hr h => ?_)
  · obtain ⟨a, ns, rfl, _⟩ := h; rfl
  · obtain ⟨sa, ns, rfl, hs, hn, q⟩ := h
    refine ⟨_, (pss_cons (ps_set (i := 1) sc_law.nd rfl (.inl rfl) (pe_call (ok_law_pool T) (hr.mono (by decide)) (by rfl) T.law_pool.g T.law_pool.F.kp T.law_pool.b .nil pass0 (pa_cons (pv 0) pa_nil)))
      (pss_cons (ps_set (i := 2) sc_law.nd rfl (.inl rfl) (pe_call (ok_law_book_drawn T) (hr.mono (by decide)) (by rfl) T.law_book_drawn.g T.law_book_drawn.F.kp T.law_book_drawn.b .nil pass0 (pa_cons (pv 1) (pa_cons pe_int (pa_cons pe_int pa_nil)))))
      (pss_cons (ps_set (i := 3) sc_law.nd rfl (.inl rfl) (pe_ix ix_list (pe_call (ok_law_book_renamed T) (hr.mono (by decide)) (by rfl) T.law_book_renamed.g T.law_book_renamed.F.kp T.law_book_renamed.b .nil pass0 (pa_cons (pv 1) (pa_cons (pe_call (ok_law_book_copied T) (hr.mono (by decide)) (by rfl) T.law_book_copied.g T.law_book_copied.F.kp T.law_book_copied.b .nil pass0 (pa_cons (pv 1) (pa_cons (pv 2) (pa_cons pe_int pa_nil)))) pa_nil))) pe_int (fun _ _ => rfl)))
      (pss_cons (ps_set (i := 4) sc_law.nd rfl (.inl rfl) (pe_call (ok_least_book T) (hr.mono (by decide)) (by rfl) T.least_book.g T.least_book.F.kp T.least_book.b .nil pass0 (pa_cons (pv 2) pa_nil)))
      (pss_cons (ps_setLc (i := 5) (own := [("some", 7)]) rfl sc_law.nd rfl rfl (sw_true rfl rfl rfl (by decide +kernel)) (pi_list (pe_lst (pa_cons (pv 2) (pa_cons (pv 3) (pa_cons (pv 4) pa_nil))))) (blkOk_by (own := [("some", 7)]) (N := ["script", "pool", "book", "copied", "least", "told", "windows", "some"]) (sc := defScope s_law) (by decide +kernel)) (fun _ _ _ _ _ => (pg_name (i := 7) sc_law.nd rfl (.inl rfl))) (fun _ _ _ _ _ => pts_nil) (fun _ _ _ _ _ => (pe_callB (call_reprAK K hr.units hG) (by rfl) T.n_repr (by decide +kernel) (pa_cons (pe_tup (pa_cons (pe_call (ok_verdict T) (hr.mono (by decide)) (by rfl) T.verdict.g T.verdict.F.kp T.verdict.b .nil pass0 (pa_cons (pv 7) pa_nil)) (pa_cons (pe_call (ok_from_window T) (hr.mono (by decide)) (by rfl) T.from_window.g T.from_window.F.kp T.from_window.b .nil pass0 (pa_cons (pv 7) pa_nil)) pa_nil))) pa_nil))))
      (pss_cons (ps_if (PW.pt (pw_or (pt_cmpR op_ne (pe_ix ix_list (pv 5) pe_int (fun _ _ => rfl)) (pe_ix ix_list (pv 5) pe_int (fun _ _ => rfl)) (nomark _)) (pw_or1 (pt_cmpR op_ne (pe_ix ix_list (pv 5) pe_int (fun _ _ => rfl)) (pe_ix ix_list (pv 5) pe_int (fun _ _ => rfl)) (nomark _)))))
        (pss_one (ps_ret pe_bl))
        pss_nil)
      (pss_cons (ps_set (i := 6) sc_law.nd rfl (.inl rfl) (pe_lst (pa_cons pe_int (pa_cons pe_int (pa_cons pe_int (pa_cons (pe_op op_add pe_int (pe_call (ok_law_draw T) (hr.mono (by decide)) (by rfl) T.law_draw.g T.law_draw.F.kp T.law_draw.b .nil pass0 (pa_cons (pv 1) (pa_cons pe_int pa_nil)))) pa_nil))))))
      (pss_one (ps_ret (pe_and (pe_callG (ok_law_led_right T) hG (hr.mono (by decide)) (by rfl) T.law_led_right.g T.law_led_right.F.kp T.law_led_right.b .nil pass0 (pa_cons (pv 2) (pa_cons (pv 4) (pa_cons (pv 6) pa_nil)))) (pe_one (pe_callG (ok_law_led_right T) hG (hr.mono (by decide)) (by rfl) T.law_led_right.g T.law_led_right.F.kp T.law_led_right.b .nil pass0 (pa_cons (pv 3) (pa_cons (pv 4) (pa_cons (pv 6) pa_nil))))))))))))))), ?_⟩
    refine ⟨_, rfl, sa, ns, rfl, hs, hn, fun p l H1 hp hl P1 e1 => ?_⟩
    refine ⟨_, rfl, p, l, 4, 3, rfl, P1, by decide, by decide, by decide, fun b v H2 ok hb4 _ hb P2 e2 => ?_⟩
    -- copied
    refine ⟨_, rfl, _, rfl, _, rfl, p, l, v, b, 7, rfl, P2, hb, ok, by omega, by decide, fun c1 f1 v1 H3 ok1 len1 hm1 hb1 P3 e3 => ?_⟩
    refine ⟨p, l, v1, c1, rfl, P3, hb1, ok1.toFormB, fun N r tn c2v H4 hput hr hb2 P4 e4 => ?_⟩
    refine ⟨r, _, 0, c2v, rfl, rfl, .of hr, atI_nat (j := 0) rfl, ?_⟩
    have ok2 := putB_okB ok1 hput
    have hm2 := (putB_hom ok1.toFormB hput).comp (putB_form ok1.toFormB hput (by have := ok1.eight; simpa using this)) hm1
    generalize putB c1 N [] = c2 at *
    have hb' : BkV K H4 v b := (hb.ext e3 P2.lsts).ext e4 P3.lsts
    -- least
    refine ⟨_, rfl, v, b, rfl, hb', ok, fun c f u H5 oc hm hc e5 => ?_⟩
    have hb5 := hb'.ext0 e5
    have hb25 := hb2.ext0 e5
    have P5 := P4.ext0 e5
    have hm3 := hm2.comp ok2.toFormB hm
    clear hb2 hb' hb1 hr hb P4 P3 P2 P1 hput hm1 ok1 len1 hm2
    -- told
    refine ⟨_, rfl, _, rfl, _, rfl, (by show 3 ≤ sizeLine; decide), fun t ht => ⟨t, rfl, ⟨_, .of upd_same⟩, fun D hD => ?_⟩⟩
    have e6 : Ext [] H5 (upd H5 t (.lst [v, c2v, u])) := .new ht
    have ht6 : upd H5 t (.lst [v, c2v, u]) t = some (.lst [v, c2v, u]) := upd_same
    clear ht
    generalize upd H5 t (.lst [v, c2v, u]) = H6 at *
    refine lc_list (K := K) (a := t) (xs := [v, c2v, u]) (fun i H' => H' D = some (.lst (List.replicate i (V.str (told3 c (frmO c)).shown))) ∧ Ext [] H6 H') ⟨upd_same, .new hD⟩ (fun i H' _ ⟨_, e⟩ => .of (e.at ht6 (by simp))) ?_ ?_
    · rintro i x H' hv ⟨hX, e⟩
      have fx : ∃ (d : Book) (g : Nat → Nat), BkV K H' x d ∧ OkB d ∧ Hom d c g ∧ i < 3 := by
        have six : i < 3 := (List.getElem?_eq_some_iff.mp hv).1
        have : i = 0 ∨ i = 1 ∨ i = 2 := by omega
        rcases this with rfl | rfl | rfl
        · cases hv
          exact ⟨b, f, hb5.ext0 (e6.trans e), ok, hm, six⟩
        · cases hv
          exact ⟨c2, _, hb25.ext0 (e6.trans e), ok2, hm3, six⟩
        · cases hv
          exact ⟨c, _, hc.ext0 (e6.trans e), oc, Hom.id c, six⟩
      obtain ⟨d, g, hd, od, hg, six⟩ := fx
      refine ⟨rfl, yes ?_⟩
      refine ⟨_, rfl, x, d, rfl, hd, od, fun t7 t8 H7 ht7 ht8 e7 => ?_⟩
      refine ⟨_, rfl, x, d, rfl, hd.ext0 e7, od, fun o H8 ho e8 => ?_⟩
      refine ⟨(by show 2 ≤ sizeLine; decide), fun t9 ht9 => ?_⟩
      have e9 : Ext [] H8 (upd H8 t9 (.tup [.ref t7, oN o])) := .new ht9
      have e89 := e8.trans e9
      have ed : told3 d o = told3 c (frmO c) := by
        have e1 := hg.nine od.toFormB oc
        have e2 := hg.leastN od oc
        obtain ⟨o', ho'⟩ := from_ex c
        have e3 := hg.from_ od.toFormB oc ho ho'
        have e4 := frmO_eq oc ho'
        unfold told3
        rw [e1, e2, e3, e4]
      have sh : ShowOk (told3 c (frmO c)) := by rw [← ed]; exact show_told (oN_le ho)
      refine ⟨_, told3 c (frmO c), rfl, ?_, sh, ?_⟩
      · rw [← ed]
        exact .tup (.of upd_same) (.cons (.tup (e89.tup Lsts.nil ht7) (.cons (.tup (e89.tup Lsts.nil ht8) (dp_nats _)) (.cons (dp_nD _) .nil))) (.cons (dp_nD _) .nil))
      · refine ⟨_, (e7.trans e89).at hX (by simp), ?_, ?_, (e.trans (e7.trans e89)).put hD⟩
        · rw [List.length_replicate]
          exact small1000 (by omega)
        · rw [upd_same, List.replicate_succ']
    rintro H7 ⟨hX, e7⟩
    have hX : H7 D = some (.lst [V.str (told3 c (frmO c)).shown, V.str (told3 c (frmO c)).shown, V.str (told3 c (frmO c)).shown]) := hX
    generalize (told3 c (frmO c)).shown = X at *
    have e57 := e6.trans e7
    -- if told[0] != told[1] or ..
    refine ⟨_, rfl, D, _, 0, _, rfl, rfl, .of hX, atI_nat (j := 0) rfl, _, rfl, D, _, 1, _, rfl, rfl, .of hX, atI_nat (j := 1) rfl, rfl, _, rfl, ?_⟩
    rw [str_ne]
    refine iteF ⟨_, rfl, D, _, 0, _, rfl, rfl, .of hX, atI_nat (j := 0) rfl, _, rfl, D, _, 2, _, rfl, rfl, .of hX, atI_nat (j := 2) rfl, rfl, _, rfl, ?_⟩
    rw [str_ne]
    refine iteF ?_
    -- windows
    have P7 := P5.ext0 e57
    refine ⟨_, rfl, p, l, 6, rfl, P7, by decide, by decide, fun r H8 r0 r6 P8 e8 => ⟨_, _, rfl, rfl, (by show 4 ≤ sizeLine; decide), fun wl hwl => ?_⟩⟩
    have e9 : Ext [] H8 (upd H8 wl (.lst [.int 1, .int 2, .int 3, .int (1 + r)])) := .new hwl
    have hw9 : upd H8 wl (.lst [.int 1, .int 2, .int 3, .int (1 + r)]) wl = some (.lst ([1, 2, 3, 1 + r.toNat].map nV)) := by
      rw [upd_same]
      have : (1 : Int) + r = ((1 + r.toNat : Nat) : Int) := by omega
      rw [this]
      rfl
    have W1 : ∀ W ∈ [1, 2, 3, 1 + r.toNat], 1 ≤ W := by
      intro W hW
      simp only [List.mem_cons, List.not_mem_nil, or_false] at hW
      omega
    have go : ∀ {x : V} {d : Book}, BkV K H5 x d → BkV K (upd H8 wl (.lst [.int 1, .int 2, .int 3, .int (1 + r)])) x d := fun h => ((h.ext0 e57).ext e8 P7.lsts).ext0 e9
    refine ⟨_, rfl, _, rfl, _, rfl, v, u, wl, b, c, f, [1, 2, 3, 1 + r.toNat], rfl, go hb5, ok, go hc, oc, hm, hw9, W1, fun Ha ea => ⟨true, rfl, iteT ?_⟩⟩
    exact ⟨_, rfl, _, rfl, _, rfl, c2v, u, wl, c2, c, _, [1, 2, 3, 1 + r.toNat], rfl, (go hb25).ext0 ea, ok2, (go hc).ext0 ea, oc, hm3, ea.at hw9 (by simp), W1, fun Hb eb => q Hb⟩
end
end Nv
namespace Nv
open PySem PySem.Spec PyProof.Rows L2
section
variable {K : PySem.W.Frag} {mg : Str → Option Value} {h : Heap}
def mkDef {name : Str} {st : Stmt} {ps : List Str} {f : Addr} {oc : Value} {od an : Option Addr} {osl : Array (Option Value)} {kV doc pm cdv ct : Value} (X : K.In h) (G : h.Ns mainGlobals mg)
    (a : PySem.W.nsIn K mainGlobals name = some (some (.ref f))) (l : K.lookup f = some ⟨oc, od, .func (PySem.W.fnOf name name (defArgs st) (defBody st) (defScope st) .none kV doc pm an cdv ct), osl⟩)
    (c : PySem.W.codeIn K cdv name = true) (k : PySem.W.keepIn K (.ref f) = true)
    (b : ∀ (kV doc pm : Value) (an : Option Addr) (cdv ct : Value) (us : List Value), us.length = ps.length → bindArgs (PySem.W.fnOf name name (defArgs st) (defBody st) (defScope st) .none kV doc pm an cdv ct) ⟨us, []⟩ = pure (ps.zip us)) : DefAt K mg name st ps :=
  ⟨f, _, fun_mk l c k, PySem.W.mg_of X G a, b kV doc pm an cdv ct⟩
def mkDefD {name : Str} {st : Stmt} {ps : List Str} {v : V} {u : Value} (r : RelV v u) {f dT : Addr} {oc doc1 : Value} {od an dod : Option Addr} {osl dsl : Array (Option Value)} {dn : Nat} {kV doc pm cdv ct : Value} (X : K.In h) (G : h.Ns mainGlobals mg)
    (a : PySem.W.nsIn K mainGlobals name = some (some (.ref f))) (l : K.lookup f = some ⟨oc, od, .func (PySem.W.fnOf name name (defArgs st) (defBody st) (defScope st) (.ref dT) kV doc pm an cdv ct), osl⟩)
    (c : PySem.W.codeIn K cdv name = true) (k : PySem.W.keepIn K (.ref f) = true) (d : K.lookup dT = some ⟨doc1, dod, .seq #[u] dn, dsl⟩) (n : Nat) (hn : n + 1 = ps.length)
    (b : ∀ (T : Addr) (kV doc pm : Value) (an : Option Addr) (cdv ct : Value) (us its : List Value), us.length = n → its.length = 1 →
      ∃ k, bindArgs (PySem.W.fnOf name name (defArgs st) (defBody st) (defScope st) (.ref T) kV doc pm an cdv ct) ⟨us, []⟩ = seqItems? (.ref T) >>= k ∧ k (some its.toArray) = pure (ps.zip (us ++ its.drop 0)))
    (b1 : ∀ (T : Addr) (kV doc pm : Value) (an : Option Addr) (cdv ct : Value) (us its : List Value), us.length = n + 1 → its.length = 1 →
      ∃ k, bindArgs (PySem.W.fnOf name name (defArgs st) (defBody st) (defScope st) (.ref T) kV doc pm an cdv ct) ⟨us, []⟩ = seqItems? (.ref T) >>= k ∧ k (some its.toArray) = pure (ps.zip (us ++ its.drop 1))) : DefAtD K mg name st ps [v] := by
  have F : FunD K name name (defArgs st) (defBody st) (defScope st) [v] [] f _ := ⟨⟨oc, od, .ref dT, kV, doc, pm, an, cdv, ct, osl, rfl, l, c, .inr ⟨by nofun, dT, _, [u], dn, rfl, d, rfl, .cons r .nil⟩, .inl rfl⟩, k⟩
  refine ⟨f, _, ⟨F⟩, PySem.W.mg_of X G a, ?_, F.binds1 n 0 (by nofun) (by simpa using hn) b⟩
  obtain ⟨ds, hv, hb⟩ := F.binds1 (n + 1) 1 (by nofun) (by simpa using hn) b1
  cases hv
  exact hb
end

set_option maxHeartbeats 0 in
theorem all_mk {l : PySem.W.OpenLaw} {w : World} {K : PySem.W.Frag} {h : Heap} {mg : Str → Option Value} {fa : Addr} (X : K.In h) (G : h.Ns mainGlobals mg) (hfa : mg "law" = some (.ref fa))
    {f0 : Addr} {oc0 kV0 dc0 pm0 cd0 ct0 : Value} {od0 an0 : Option Addr} {sl0 : Array (Option Value)}
    {f1 : Addr} {oc1 kV1 dc1 pm1 cd1 ct1 : Value} {od1 an1 : Option Addr} {sl1 : Array (Option Value)}
    {f2 : Addr} {oc2 kV2 dc2 pm2 cd2 ct2 : Value} {od2 an2 : Option Addr} {sl2 : Array (Option Value)}
    {f3 : Addr} {oc3 kV3 dc3 pm3 cd3 ct3 : Value} {od3 an3 : Option Addr} {sl3 : Array (Option Value)} {zT3 : Addr} {zc3 : Value} {zo3 : Option Addr} {zs3 : Array (Option Value)} {zn3 : Nat} {zk3 : Tok}
    {f4 : Addr} {oc4 kV4 dc4 pm4 cd4 ct4 : Value} {od4 an4 : Option Addr} {sl4 : Array (Option Value)}
    {f5 : Addr} {oc5 kV5 dc5 pm5 cd5 ct5 : Value} {od5 an5 : Option Addr} {sl5 : Array (Option Value)}
    {f6 : Addr} {oc6 kV6 dc6 pm6 cd6 ct6 : Value} {od6 an6 : Option Addr} {sl6 : Array (Option Value)}
    {f7 : Addr} {oc7 kV7 dc7 pm7 cd7 ct7 : Value} {od7 an7 : Option Addr} {sl7 : Array (Option Value)}
    {f8 : Addr} {oc8 kV8 dc8 pm8 cd8 ct8 : Value} {od8 an8 : Option Addr} {sl8 : Array (Option Value)}
    {f9 : Addr} {oc9 kV9 dc9 pm9 cd9 ct9 : Value} {od9 an9 : Option Addr} {sl9 : Array (Option Value)}
    {f10 : Addr} {oc10 kV10 dc10 pm10 cd10 ct10 : Value} {od10 an10 : Option Addr} {sl10 : Array (Option Value)}
    {f11 : Addr} {oc11 kV11 dc11 pm11 cd11 ct11 : Value} {od11 an11 : Option Addr} {sl11 : Array (Option Value)}
    {f12 : Addr} {oc12 kV12 dc12 pm12 cd12 ct12 : Value} {od12 an12 : Option Addr} {sl12 : Array (Option Value)}
    {f13 : Addr} {oc13 kV13 dc13 pm13 cd13 ct13 : Value} {od13 an13 : Option Addr} {sl13 : Array (Option Value)}
    {f14 : Addr} {oc14 kV14 dc14 pm14 cd14 ct14 : Value} {od14 an14 : Option Addr} {sl14 : Array (Option Value)}
    {f15 : Addr} {oc15 kV15 dc15 pm15 cd15 ct15 : Value} {od15 an15 : Option Addr} {sl15 : Array (Option Value)}
    {f16 : Addr} {oc16 kV16 dc16 pm16 cd16 ct16 : Value} {od16 an16 : Option Addr} {sl16 : Array (Option Value)}
    {f17 : Addr} {oc17 kV17 dc17 pm17 cd17 ct17 : Value} {od17 an17 : Option Addr} {sl17 : Array (Option Value)}
    {f18 : Addr} {oc18 kV18 dc18 pm18 cd18 ct18 : Value} {od18 an18 : Option Addr} {sl18 : Array (Option Value)}
    {f19 : Addr} {oc19 kV19 dc19 pm19 cd19 ct19 : Value} {od19 an19 : Option Addr} {sl19 : Array (Option Value)}
    {f20 : Addr} {oc20 kV20 dc20 pm20 cd20 ct20 : Value} {od20 an20 : Option Addr} {sl20 : Array (Option Value)}
    {f21 : Addr} {oc21 kV21 dc21 pm21 cd21 ct21 : Value} {od21 an21 : Option Addr} {sl21 : Array (Option Value)}
    {f22 : Addr} {oc22 kV22 dc22 pm22 cd22 ct22 : Value} {od22 an22 : Option Addr} {sl22 : Array (Option Value)}
    {f23 : Addr} {oc23 kV23 dc23 pm23 cd23 ct23 : Value} {od23 an23 : Option Addr} {sl23 : Array (Option Value)}
    {f24 : Addr} {oc24 kV24 dc24 pm24 cd24 ct24 : Value} {od24 an24 : Option Addr} {sl24 : Array (Option Value)}
    {f25 : Addr} {oc25 kV25 dc25 pm25 cd25 ct25 : Value} {od25 an25 : Option Addr} {sl25 : Array (Option Value)}
    {f26 : Addr} {oc26 kV26 dc26 pm26 cd26 ct26 : Value} {od26 an26 : Option Addr} {sl26 : Array (Option Value)}
    {f27 : Addr} {oc27 kV27 dc27 pm27 cd27 ct27 : Value} {od27 an27 : Option Addr} {sl27 : Array (Option Value)}
    {f28 : Addr} {oc28 kV28 dc28 pm28 cd28 ct28 : Value} {od28 an28 : Option Addr} {sl28 : Array (Option Value)}
    {f29 : Addr} {oc29 kV29 dc29 pm29 cd29 ct29 : Value} {od29 an29 : Option Addr} {sl29 : Array (Option Value)}
    {f30 : Addr} {oc30 kV30 dc30 pm30 cd30 ct30 : Value} {od30 an30 : Option Addr} {sl30 : Array (Option Value)}
    {f31 : Addr} {oc31 kV31 dc31 pm31 cd31 ct31 : Value} {od31 an31 : Option Addr} {sl31 : Array (Option Value)}
    {f32 : Addr} {oc32 kV32 dc32 pm32 cd32 ct32 : Value} {od32 an32 : Option Addr} {sl32 : Array (Option Value)}
    {f33 : Addr} {oc33 kV33 dc33 pm33 cd33 ct33 : Value} {od33 an33 : Option Addr} {sl33 : Array (Option Value)}
    {f34 : Addr} {oc34 kV34 dc34 pm34 cd34 ct34 : Value} {od34 an34 : Option Addr} {sl34 : Array (Option Value)}
    {f35 : Addr} {oc35 kV35 dc35 pm35 cd35 ct35 : Value} {od35 an35 : Option Addr} {sl35 : Array (Option Value)}
    {f36 : Addr} {oc36 kV36 dc36 pm36 cd36 ct36 : Value} {od36 an36 : Option Addr} {sl36 : Array (Option Value)}
    {f37 : Addr} {oc37 kV37 dc37 pm37 cd37 ct37 : Value} {od37 an37 : Option Addr} {sl37 : Array (Option Value)}
    {f38 : Addr} {oc38 kV38 dc38 pm38 cd38 ct38 : Value} {od38 an38 : Option Addr} {sl38 : Array (Option Value)}
    {f39 : Addr} {oc39 kV39 dc39 pm39 cd39 ct39 : Value} {od39 an39 : Option Addr} {sl39 : Array (Option Value)}
    {f40 : Addr} {oc40 kV40 dc40 pm40 cd40 ct40 : Value} {od40 an40 : Option Addr} {sl40 : Array (Option Value)}
    {t0 : Tok}
    {t1 : Tok}
    {t2 : Tok}
    {t3 : Tok}
    (a0 : PySem.W.nsIn K mainGlobals "whole" = some (some (.ref f0))) (l0 : K.lookup f0 = some ⟨oc0, od0, .func (PySem.W.fnOf "whole" "whole" (defArgs s_whole) (defBody s_whole) (defScope s_whole) .none kV0 dc0 pm0 an0 cd0 ct0), sl0⟩) (c0 : PySem.W.codeIn K cd0 "whole" = true) (k0 : PySem.W.keepIn K (.ref f0) = true)
    (a1 : PySem.W.nsIn K mainGlobals "whole_within" = some (some (.ref f1))) (l1 : K.lookup f1 = some ⟨oc1, od1, .func (PySem.W.fnOf "whole_within" "whole_within" (defArgs s_whole_within) (defBody s_whole_within) (defScope s_whole_within) .none kV1 dc1 pm1 an1 cd1 ct1), sl1⟩) (c1 : PySem.W.codeIn K cd1 "whole_within" = true) (k1 : PySem.W.keepIn K (.ref f1) = true)
    (a2 : PySem.W.nsIn K mainGlobals "tuple_within" = some (some (.ref f2))) (l2 : K.lookup f2 = some ⟨oc2, od2, .func (PySem.W.fnOf "tuple_within" "tuple_within" (defArgs s_tuple_within) (defBody s_tuple_within) (defScope s_tuple_within) .none kV2 dc2 pm2 an2 cd2 ct2), sl2⟩) (c2 : PySem.W.codeIn K cd2 "tuple_within" = true) (k2 : PySem.W.keepIn K (.ref f2) = true)
    (a3 : PySem.W.nsIn K mainGlobals "first_rows" = some (some (.ref f3))) (l3 : K.lookup f3 = some ⟨oc3, od3, .func (PySem.W.fnOf "first_rows" "first_rows" (defArgs s_first_rows) (defBody s_first_rows) (defScope s_first_rows) (.ref zT3) kV3 dc3 pm3 an3 cd3 ct3), sl3⟩) (c3 : PySem.W.codeIn K cd3 "first_rows" = true) (k3 : PySem.W.keepIn K (.ref f3) = true)
    (df3 : K.lookup zT3 = some ⟨zc3, zo3, .seq #[.int 0 zk3] zn3, zs3⟩)
    (a4 : PySem.W.nsIn K mainGlobals "by_meeting" = some (some (.ref f4))) (l4 : K.lookup f4 = some ⟨oc4, od4, .func (PySem.W.fnOf "by_meeting" "by_meeting" (defArgs s_by_meeting) (defBody s_by_meeting) (defScope s_by_meeting) .none kV4 dc4 pm4 an4 cd4 ct4), sl4⟩) (c4 : PySem.W.codeIn K cd4 "by_meeting" = true) (k4 : PySem.W.keepIn K (.ref f4) = true)
    (a5 : PySem.W.nsIn K mainGlobals "least_states" = some (some (.ref f5))) (l5 : K.lookup f5 = some ⟨oc5, od5, .func (PySem.W.fnOf "least_states" "least_states" (defArgs s_least_states) (defBody s_least_states) (defScope s_least_states) .none kV5 dc5 pm5 an5 cd5 ct5), sl5⟩) (c5 : PySem.W.codeIn K cd5 "least_states" = true) (k5 : PySem.W.keepIn K (.ref f5) = true)
    (a6 : PySem.W.nsIn K mainGlobals "made_book" = some (some (.ref f6))) (l6 : K.lookup f6 = some ⟨oc6, od6, .func (PySem.W.fnOf "made_book" "made_book" (defArgs s_made_book) (defBody s_made_book) (defScope s_made_book) .none kV6 dc6 pm6 an6 cd6 ct6), sl6⟩) (c6 : PySem.W.codeIn K cd6 "made_book" = true) (k6 : PySem.W.keepIn K (.ref f6) = true)
    (a7 : PySem.W.nsIn K mainGlobals "check_form" = some (some (.ref f7))) (l7 : K.lookup f7 = some ⟨oc7, od7, .func (PySem.W.fnOf "check_form" "check_form" (defArgs s_check_form) (defBody s_check_form) (defScope s_check_form) .none kV7 dc7 pm7 an7 cd7 ct7), sl7⟩) (c7 : PySem.W.codeIn K cd7 "check_form" = true) (k7 : PySem.W.keepIn K (.ref f7) = true)
    (a8 : PySem.W.nsIn K mainGlobals "has_state_form" = some (some (.ref f8))) (l8 : K.lookup f8 = some ⟨oc8, od8, .func (PySem.W.fnOf "has_state_form" "has_state_form" (defArgs s_has_state_form) (defBody s_has_state_form) (defScope s_has_state_form) .none kV8 dc8 pm8 an8 cd8 ct8), sl8⟩) (c8 : PySem.W.codeIn K cd8 "has_state_form" = true) (k8 : PySem.W.keepIn K (.ref f8) = true)
    (a9 : PySem.W.nsIn K mainGlobals "fork_states" = some (some (.ref f9))) (l9 : K.lookup f9 = some ⟨oc9, od9, .func (PySem.W.fnOf "fork_states" "fork_states" (defArgs s_fork_states) (defBody s_fork_states) (defScope s_fork_states) .none kV9 dc9 pm9 an9 cd9 ct9), sl9⟩) (c9 : PySem.W.codeIn K cd9 "fork_states" = true) (k9 : PySem.W.keepIn K (.ref f9) = true)
    (a10 : PySem.W.nsIn K mainGlobals "led_to" = some (some (.ref f10))) (l10 : K.lookup f10 = some ⟨oc10, od10, .func (PySem.W.fnOf "led_to" "led_to" (defArgs s_led_to) (defBody s_led_to) (defScope s_led_to) .none kV10 dc10 pm10 an10 cd10 ct10), sl10⟩) (c10 : PySem.W.codeIn K cd10 "led_to" = true) (k10 : PySem.W.keepIn K (.ref f10) = true)
    (a11 : PySem.W.nsIn K mainGlobals "reach" = some (some (.ref f11))) (l11 : K.lookup f11 = some ⟨oc11, od11, .func (PySem.W.fnOf "reach" "reach" (defArgs s_reach) (defBody s_reach) (defScope s_reach) .none kV11 dc11 pm11 an11 cd11 ct11), sl11⟩) (c11 : PySem.W.codeIn K cd11 "reach" = true) (k11 : PySem.W.keepIn K (.ref f11) = true)
    (a12 : PySem.W.nsIn K mainGlobals "ways_back" = some (some (.ref f12))) (l12 : K.lookup f12 = some ⟨oc12, od12, .func (PySem.W.fnOf "ways_back" "ways_back" (defArgs s_ways_back) (defBody s_ways_back) (defScope s_ways_back) .none kV12 dc12 pm12 an12 cd12 ct12), sl12⟩) (c12 : PySem.W.codeIn K cd12 "ways_back" = true) (k12 : PySem.W.keepIn K (.ref f12) = true)
    (a13 : PySem.W.nsIn K mainGlobals "ring_states" = some (some (.ref f13))) (l13 : K.lookup f13 = some ⟨oc13, od13, .func (PySem.W.fnOf "ring_states" "ring_states" (defArgs s_ring_states) (defBody s_ring_states) (defScope s_ring_states) .none kV13 dc13 pm13 an13 cd13 ct13), sl13⟩) (c13 : PySem.W.codeIn K cd13 "ring_states" = true) (k13 : PySem.W.keepIn K (.ref f13) = true)
    (a14 : PySem.W.nsIn K mainGlobals "forks_on_rings" = some (some (.ref f14))) (l14 : K.lookup f14 = some ⟨oc14, od14, .func (PySem.W.fnOf "forks_on_rings" "forks_on_rings" (defArgs s_forks_on_rings) (defBody s_forks_on_rings) (defScope s_forks_on_rings) .none kV14 dc14 pm14 an14 cd14 ct14), sl14⟩) (c14 : PySem.W.codeIn K cd14 "forks_on_rings" = true) (k14 : PySem.W.keepIn K (.ref f14) = true)
    (a15 : PySem.W.nsIn K mainGlobals "made_window" = some (some (.ref f15))) (l15 : K.lookup f15 = some ⟨oc15, od15, .func (PySem.W.fnOf "made_window" "made_window" (defArgs s_made_window) (defBody s_made_window) (defScope s_made_window) .none kV15 dc15 pm15 an15 cd15 ct15), sl15⟩) (c15 : PySem.W.codeIn K cd15 "made_window" = true) (k15 : PySem.W.keepIn K (.ref f15) = true)
    (a16 : PySem.W.nsIn K mainGlobals "check_number" = some (some (.ref f16))) (l16 : K.lookup f16 = some ⟨oc16, od16, .func (PySem.W.fnOf "check_number" "check_number" (defArgs s_check_number) (defBody s_check_number) (defScope s_check_number) .none kV16 dc16 pm16 an16 cd16 ct16), sl16⟩) (c16 : PySem.W.codeIn K cd16 "check_number" = true) (k16 : PySem.W.keepIn K (.ref f16) = true)
    (a17 : PySem.W.nsIn K mainGlobals "ranks" = some (some (.ref f17))) (l17 : K.lookup f17 = some ⟨oc17, od17, .func (PySem.W.fnOf "ranks" "ranks" (defArgs s_ranks) (defBody s_ranks) (defScope s_ranks) .none kV17 dc17 pm17 an17 cd17 ct17), sl17⟩) (c17 : PySem.W.codeIn K cd17 "ranks" = true) (k17 : PySem.W.keepIn K (.ref f17) = true)
    (a18 : PySem.W.nsIn K mainGlobals "lasting" = some (some (.ref f18))) (l18 : K.lookup f18 = some ⟨oc18, od18, .func (PySem.W.fnOf "lasting" "lasting" (defArgs s_lasting) (defBody s_lasting) (defScope s_lasting) .none kV18 dc18 pm18 an18 cd18 ct18), sl18⟩) (c18 : PySem.W.codeIn K cd18 "lasting" = true) (k18 : PySem.W.keepIn K (.ref f18) = true)
    (a19 : PySem.W.nsIn K mainGlobals "leading_to" = some (some (.ref f19))) (l19 : K.lookup f19 = some ⟨oc19, od19, .func (PySem.W.fnOf "leading_to" "leading_to" (defArgs s_leading_to) (defBody s_leading_to) (defScope s_leading_to) .none kV19 dc19 pm19 an19 cd19 ct19), sl19⟩) (c19 : PySem.W.codeIn K cd19 "leading_to" = true) (k19 : PySem.W.keepIn K (.ref f19) = true)
    (a20 : PySem.W.nsIn K mainGlobals "ranks_for" = some (some (.ref f20))) (l20 : K.lookup f20 = some ⟨oc20, od20, .func (PySem.W.fnOf "ranks_for" "ranks_for" (defArgs s_ranks_for) (defBody s_ranks_for) (defScope s_ranks_for) .none kV20 dc20 pm20 an20 cd20 ct20), sl20⟩) (c20 : PySem.W.codeIn K cd20 "ranks_for" = true) (k20 : PySem.W.keepIn K (.ref f20) = true)
    (a21 : PySem.W.nsIn K mainGlobals "lasting_for" = some (some (.ref f21))) (l21 : K.lookup f21 = some ⟨oc21, od21, .func (PySem.W.fnOf "lasting_for" "lasting_for" (defArgs s_lasting_for) (defBody s_lasting_for) (defScope s_lasting_for) .none kV21 dc21 pm21 an21 cd21 ct21), sl21⟩) (c21 : PySem.W.codeIn K cd21 "lasting_for" = true) (k21 : PySem.W.keepIn K (.ref f21) = true)
    (a22 : PySem.W.nsIn K mainGlobals "from_window" = some (some (.ref f22))) (l22 : K.lookup f22 = some ⟨oc22, od22, .func (PySem.W.fnOf "from_window" "from_window" (defArgs s_from_window) (defBody s_from_window) (defScope s_from_window) .none kV22 dc22 pm22 an22 cd22 ct22), sl22⟩) (c22 : PySem.W.codeIn K cd22 "from_window" = true) (k22 : PySem.W.keepIn K (.ref f22) = true)
    (a23 : PySem.W.nsIn K mainGlobals "verdict" = some (some (.ref f23))) (l23 : K.lookup f23 = some ⟨oc23, od23, .func (PySem.W.fnOf "verdict" "verdict" (defArgs s_verdict) (defBody s_verdict) (defScope s_verdict) .none kV23 dc23 pm23 an23 cd23 ct23), sl23⟩) (c23 : PySem.W.codeIn K cd23 "verdict" = true) (k23 : PySem.W.keepIn K (.ref f23) = true)
    (a24 : PySem.W.nsIn K mainGlobals "least_for" = some (some (.ref f24))) (l24 : K.lookup f24 = some ⟨oc24, od24, .func (PySem.W.fnOf "least_for" "least_for" (defArgs s_least_for) (defBody s_least_for) (defScope s_least_for) .none kV24 dc24 pm24 an24 cd24 ct24), sl24⟩) (c24 : PySem.W.codeIn K cd24 "least_for" = true) (k24 : PySem.W.keepIn K (.ref f24) = true)
    (a25 : PySem.W.nsIn K mainGlobals "least_free" = some (some (.ref f25))) (l25 : K.lookup f25 = some ⟨oc25, od25, .func (PySem.W.fnOf "least_free" "least_free" (defArgs s_least_free) (defBody s_least_free) (defScope s_least_free) .none kV25 dc25 pm25 an25 cd25 ct25), sl25⟩) (c25 : PySem.W.codeIn K cd25 "least_free" = true) (k25 : PySem.W.keepIn K (.ref f25) = true)
    (a26 : PySem.W.nsIn K mainGlobals "ray_counts" = some (some (.ref f26))) (l26 : K.lookup f26 = some ⟨oc26, od26, .func (PySem.W.fnOf "ray_counts" "ray_counts" (defArgs s_ray_counts) (defBody s_ray_counts) (defScope s_ray_counts) .none kV26 dc26 pm26 an26 cd26 ct26), sl26⟩) (c26 : PySem.W.codeIn K cd26 "ray_counts" = true) (k26 : PySem.W.keepIn K (.ref f26) = true)
    (a27 : PySem.W.nsIn K mainGlobals "least_book" = some (some (.ref f27))) (l27 : K.lookup f27 = some ⟨oc27, od27, .func (PySem.W.fnOf "least_book" "least_book" (defArgs s_least_book) (defBody s_least_book) (defScope s_least_book) .none kV27 dc27 pm27 an27 cd27 ct27), sl27⟩) (c27 : PySem.W.codeIn K cd27 "least_book" = true) (k27 : PySem.W.keepIn K (.ref f27) = true)
    (a28 : PySem.W.nsIn K mainGlobals "_law_pool" = some (some (.ref f28))) (l28 : K.lookup f28 = some ⟨oc28, od28, .func (PySem.W.fnOf "_law_pool" "_law_pool" (defArgs s_law_pool) (defBody s_law_pool) (defScope s_law_pool) .none kV28 dc28 pm28 an28 cd28 ct28), sl28⟩) (c28 : PySem.W.codeIn K cd28 "_law_pool" = true) (k28 : PySem.W.keepIn K (.ref f28) = true)
    (a29 : PySem.W.nsIn K mainGlobals "_law_draw" = some (some (.ref f29))) (l29 : K.lookup f29 = some ⟨oc29, od29, .func (PySem.W.fnOf "_law_draw" "_law_draw" (defArgs s_law_draw) (defBody s_law_draw) (defScope s_law_draw) .none kV29 dc29 pm29 an29 cd29 ct29), sl29⟩) (c29 : PySem.W.codeIn K cd29 "_law_draw" = true) (k29 : PySem.W.keepIn K (.ref f29) = true)
    (a30 : PySem.W.nsIn K mainGlobals "_law_pick" = some (some (.ref f30))) (l30 : K.lookup f30 = some ⟨oc30, od30, .func (PySem.W.fnOf "_law_pick" "_law_pick" (defArgs s_law_pick) (defBody s_law_pick) (defScope s_law_pick) .none kV30 dc30 pm30 an30 cd30 ct30), sl30⟩) (c30 : PySem.W.codeIn K cd30 "_law_pick" = true) (k30 : PySem.W.keepIn K (.ref f30) = true)
    (a31 : PySem.W.nsIn K mainGlobals "_law_turned" = some (some (.ref f31))) (l31 : K.lookup f31 = some ⟨oc31, od31, .func (PySem.W.fnOf "_law_turned" "_law_turned" (defArgs s_law_turned) (defBody s_law_turned) (defScope s_law_turned) .none kV31 dc31 pm31 an31 cd31 ct31), sl31⟩) (c31 : PySem.W.codeIn K cd31 "_law_turned" = true) (k31 : PySem.W.keepIn K (.ref f31) = true)
    (a32 : PySem.W.nsIn K mainGlobals "_law_book_meeting" = some (some (.ref f32))) (l32 : K.lookup f32 = some ⟨oc32, od32, .func (PySem.W.fnOf "_law_book_meeting" "_law_book_meeting" (defArgs s_law_book_meeting) (defBody s_law_book_meeting) (defScope s_law_book_meeting) .none kV32 dc32 pm32 an32 cd32 ct32), sl32⟩) (c32 : PySem.W.codeIn K cd32 "_law_book_meeting" = true) (k32 : PySem.W.keepIn K (.ref f32) = true)
    (a33 : PySem.W.nsIn K mainGlobals "_law_book_messages" = some (some (.ref f33))) (l33 : K.lookup f33 = some ⟨oc33, od33, .func (PySem.W.fnOf "_law_book_messages" "_law_book_messages" (defArgs s_law_book_messages) (defBody s_law_book_messages) (defScope s_law_book_messages) .none kV33 dc33 pm33 an33 cd33 ct33), sl33⟩) (c33 : PySem.W.codeIn K cd33 "_law_book_messages" = true) (k33 : PySem.W.keepIn K (.ref f33) = true)
    (a34 : PySem.W.nsIn K mainGlobals "_law_book_drawn" = some (some (.ref f34))) (l34 : K.lookup f34 = some ⟨oc34, od34, .func (PySem.W.fnOf "_law_book_drawn" "_law_book_drawn" (defArgs s_law_book_drawn) (defBody s_law_book_drawn) (defScope s_law_book_drawn) .none kV34 dc34 pm34 an34 cd34 ct34), sl34⟩) (c34 : PySem.W.codeIn K cd34 "_law_book_drawn" = true) (k34 : PySem.W.keepIn K (.ref f34) = true)
    (a35 : PySem.W.nsIn K mainGlobals "_law_book_next" = some (some (.ref f35))) (l35 : K.lookup f35 = some ⟨oc35, od35, .func (PySem.W.fnOf "_law_book_next" "_law_book_next" (defArgs s_law_book_next) (defBody s_law_book_next) (defScope s_law_book_next) .none kV35 dc35 pm35 an35 cd35 ct35), sl35⟩) (c35 : PySem.W.codeIn K cd35 "_law_book_next" = true) (k35 : PySem.W.keepIn K (.ref f35) = true)
    (a36 : PySem.W.nsIn K mainGlobals "_law_book_renamed" = some (some (.ref f36))) (l36 : K.lookup f36 = some ⟨oc36, od36, .func (PySem.W.fnOf "_law_book_renamed" "_law_book_renamed" (defArgs s_law_book_renamed) (defBody s_law_book_renamed) (defScope s_law_book_renamed) .none kV36 dc36 pm36 an36 cd36 ct36), sl36⟩) (c36 : PySem.W.codeIn K cd36 "_law_book_renamed" = true) (k36 : PySem.W.keepIn K (.ref f36) = true)
    (a37 : PySem.W.nsIn K mainGlobals "_law_book_copied" = some (some (.ref f37))) (l37 : K.lookup f37 = some ⟨oc37, od37, .func (PySem.W.fnOf "_law_book_copied" "_law_book_copied" (defArgs s_law_book_copied) (defBody s_law_book_copied) (defScope s_law_book_copied) .none kV37 dc37 pm37 an37 cd37 ct37), sl37⟩) (c37 : PySem.W.codeIn K cd37 "_law_book_copied" = true) (k37 : PySem.W.keepIn K (.ref f37) = true)
    (a38 : PySem.W.nsIn K mainGlobals "_law_book_led" = some (some (.ref f38))) (l38 : K.lookup f38 = some ⟨oc38, od38, .func (PySem.W.fnOf "_law_book_led" "_law_book_led" (defArgs s_law_book_led) (defBody s_law_book_led) (defScope s_law_book_led) .none kV38 dc38 pm38 an38 cd38 ct38), sl38⟩) (c38 : PySem.W.codeIn K cd38 "_law_book_led" = true) (k38 : PySem.W.keepIn K (.ref f38) = true)
    (a39 : PySem.W.nsIn K mainGlobals "_law_led_right" = some (some (.ref f39))) (l39 : K.lookup f39 = some ⟨oc39, od39, .func (PySem.W.fnOf "_law_led_right" "_law_led_right" (defArgs s_law_led_right) (defBody s_law_led_right) (defScope s_law_led_right) .none kV39 dc39 pm39 an39 cd39 ct39), sl39⟩) (c39 : PySem.W.codeIn K cd39 "_law_led_right" = true) (k39 : PySem.W.keepIn K (.ref f39) = true)
    (a40 : PySem.W.nsIn K mainGlobals "law" = some (some (.ref f40))) (l40 : K.lookup f40 = some ⟨oc40, od40, .func (PySem.W.fnOf "law" "law" (defArgs s_law) (defBody s_law) (defScope s_law) .none kV40 dc40 pm40 an40 cd40 ct40), sl40⟩) (c40 : PySem.W.codeIn K cd40 "law" = true) (k40 : PySem.W.keepIn K (.ref f40) = true)
    (z0 : PySem.W.nsIn K mainGlobals "isinstance" = some none)
    (z1 : PySem.W.nsIn K mainGlobals "int" = some none)
    (z2 : PySem.W.nsIn K mainGlobals "bool" = some none)
    (z3 : PySem.W.nsIn K mainGlobals "tuple" = some none)
    (z4 : PySem.W.nsIn K mainGlobals "len" = some none)
    (z5 : PySem.W.nsIn K mainGlobals "list" = some none)
    (z6 : PySem.W.nsIn K mainGlobals "enumerate" = some none)
    (z7 : PySem.W.nsIn K mainGlobals "range" = some none)
    (z8 : PySem.W.nsIn K mainGlobals "dict" = some none)
    (z9 : PySem.W.nsIn K mainGlobals "min" = some none)
    (z10 : PySem.W.nsIn K mainGlobals "sorted" = some none)
    (z11 : PySem.W.nsIn K mainGlobals "set" = some none)
    (z12 : PySem.W.nsIn K mainGlobals "any" = some none)
    (z13 : PySem.W.nsIn K mainGlobals "sum" = some none)
    (z14 : PySem.W.nsIn K mainGlobals "max" = some none)
    (z15 : PySem.W.nsIn K mainGlobals "repr" = some none)
    (y0 : PySem.W.nsIn K mainGlobals "MOST_STATES" = some (some (.int 8 t0)))
    (y1 : PySem.W.nsIn K mainGlobals "MOST_MESSAGES" = some (some (.int 5 t1)))
    (y2 : PySem.W.nsIn K mainGlobals "GREATEST_MESSAGE" = some (some (.int 99 t2)))
    (y3 : PySem.W.nsIn K mainGlobals "LAST_WINDOW" = some (some (.int 9 t3)))
    : ∃ fd : FuncData, (∀ (s : Shared) (v : Value), BindsTo s fd ⟨[v], []⟩ [("script", v)]) ∧ ∀ base : Heap, K.In base → base.Ns mainGlobals mg → FnG l.prog w K mg base CX0 10 fa fd ["script"] (spLaw K) := by
  have T : Tx K mg := {
    whole := mkDef X G a0 l0 c0 k0 fun _ _ _ _ _ _ us hl => match us, hl with | [_], _ => rfl
    whole_within := mkDef X G a1 l1 c1 k1 fun _ _ _ _ _ _ us hl => match us, hl with | [_, _, _], _ => rfl
    tuple_within := mkDef X G a2 l2 c2 k2 fun _ _ _ _ _ _ us hl => match us, hl with | [_, _, _], _ => rfl
    first_rows := mkDefD ⟨zk3, rfl⟩ X G a3 l3 c3 k3 df3 1 rfl (fun _ _ _ _ _ _ _ us its h1 h2 => match us, its, h1, h2 with | [_], [_], _, _ => ⟨_, rfl, rfl⟩) (fun _ _ _ _ _ _ _ us its h1 h2 => match us, its, h1, h2 with | [_, _], [_], _, _ => ⟨_, rfl, rfl⟩)
    by_meeting := mkDef X G a4 l4 c4 k4 fun _ _ _ _ _ _ us hl => match us, hl with | [_], _ => rfl
    least_states := mkDef X G a5 l5 c5 k5 fun _ _ _ _ _ _ us hl => match us, hl with | [_], _ => rfl
    made_book := mkDef X G a6 l6 c6 k6 fun _ _ _ _ _ _ us hl => match us, hl with | [_], _ => rfl
    check_form := mkDef X G a7 l7 c7 k7 fun _ _ _ _ _ _ us hl => match us, hl with | [_], _ => rfl
    has_state_form := mkDef X G a8 l8 c8 k8 fun _ _ _ _ _ _ us hl => match us, hl with | [_, _], _ => rfl
    fork_states := mkDef X G a9 l9 c9 k9 fun _ _ _ _ _ _ us hl => match us, hl with | [_], _ => rfl
    led_to := mkDef X G a10 l10 c10 k10 fun _ _ _ _ _ _ us hl => match us, hl with | [_, _, _, _], _ => rfl
    reach := mkDef X G a11 l11 c11 k11 fun _ _ _ _ _ _ us hl => match us, hl with | [_, _, _], _ => rfl
    ways_back := mkDef X G a12 l12 c12 k12 fun _ _ _ _ _ _ us hl => match us, hl with | [_, _], _ => rfl
    ring_states := mkDef X G a13 l13 c13 k13 fun _ _ _ _ _ _ us hl => match us, hl with | [_], _ => rfl
    forks_on_rings := mkDef X G a14 l14 c14 k14 fun _ _ _ _ _ _ us hl => match us, hl with | [_], _ => rfl
    made_window := mkDef X G a15 l15 c15 k15 fun _ _ _ _ _ _ us hl => match us, hl with | [_], _ => rfl
    check_number := mkDef X G a16 l16 c16 k16 fun _ _ _ _ _ _ us hl => match us, hl with | [_], _ => rfl
    ranks := mkDef X G a17 l17 c17 k17 fun _ _ _ _ _ _ us hl => match us, hl with | [_, _], _ => rfl
    lasting := mkDef X G a18 l18 c18 k18 fun _ _ _ _ _ _ us hl => match us, hl with | [_, _], _ => rfl
    leading_to := mkDef X G a19 l19 c19 k19 fun _ _ _ _ _ _ us hl => match us, hl with | [_, _, _, _], _ => rfl
    ranks_for := mkDef X G a20 l20 c20 k20 fun _ _ _ _ _ _ us hl => match us, hl with | [_, _], _ => rfl
    lasting_for := mkDef X G a21 l21 c21 k21 fun _ _ _ _ _ _ us hl => match us, hl with | [_, _], _ => rfl
    from_window := mkDef X G a22 l22 c22 k22 fun _ _ _ _ _ _ us hl => match us, hl with | [_], _ => rfl
    verdict := mkDef X G a23 l23 c23 k23 fun _ _ _ _ _ _ us hl => match us, hl with | [_], _ => rfl
    least_for := mkDef X G a24 l24 c24 k24 fun _ _ _ _ _ _ us hl => match us, hl with | [_, _], _ => rfl
    least_free := mkDef X G a25 l25 c25 k25 fun _ _ _ _ _ _ us hl => match us, hl with | [_], _ => rfl
    ray_counts := mkDef X G a26 l26 c26 k26 fun _ _ _ _ _ _ us hl => match us, hl with | [_], _ => rfl
    least_book := mkDef X G a27 l27 c27 k27 fun _ _ _ _ _ _ us hl => match us, hl with | [_], _ => rfl
    law_pool := mkDef X G a28 l28 c28 k28 fun _ _ _ _ _ _ us hl => match us, hl with | [_], _ => rfl
    law_draw := mkDef X G a29 l29 c29 k29 fun _ _ _ _ _ _ us hl => match us, hl with | [_, _], _ => rfl
    law_pick := mkDef X G a30 l30 c30 k30 fun _ _ _ _ _ _ us hl => match us, hl with | [_, _], _ => rfl
    law_turned := mkDef X G a31 l31 c31 k31 fun _ _ _ _ _ _ us hl => match us, hl with | [_, _], _ => rfl
    law_book_meeting := mkDef X G a32 l32 c32 k32 fun _ _ _ _ _ _ us hl => match us, hl with | [_], _ => rfl
    law_book_messages := mkDef X G a33 l33 c33 k33 fun _ _ _ _ _ _ us hl => match us, hl with | [_, _], _ => rfl
    law_book_drawn := mkDef X G a34 l34 c34 k34 fun _ _ _ _ _ _ us hl => match us, hl with | [_, _, _], _ => rfl
    law_book_next := mkDef X G a35 l35 c35 k35 fun _ _ _ _ _ _ us hl => match us, hl with | [_, _, _], _ => rfl
    law_book_renamed := mkDef X G a36 l36 c36 k36 fun _ _ _ _ _ _ us hl => match us, hl with | [_, _], _ => rfl
    law_book_copied := mkDef X G a37 l37 c37 k37 fun _ _ _ _ _ _ us hl => match us, hl with | [_, _, _], _ => rfl
    law_book_led := mkDef X G a38 l38 c38 k38 fun _ _ _ _ _ _ us hl => match us, hl with | [_, _], _ => rfl
    law_led_right := mkDef X G a39 l39 c39 k39 fun _ _ _ _ _ _ us hl => match us, hl with | [_, _, _], _ => rfl
    law := mkDef X G a40 l40 c40 k40 fun _ _ _ _ _ _ us hl => match us, hl with | [_], _ => rfl
    n_isinstance := PySem.W.mg_none_of X G z0
    n_int := PySem.W.mg_none_of X G z1
    n_bool := PySem.W.mg_none_of X G z2
    n_tuple := PySem.W.mg_none_of X G z3
    n_len := PySem.W.mg_none_of X G z4
    n_list := PySem.W.mg_none_of X G z5
    n_enumerate := PySem.W.mg_none_of X G z6
    n_range := PySem.W.mg_none_of X G z7
    n_dict := PySem.W.mg_none_of X G z8
    n_min := PySem.W.mg_none_of X G z9
    n_sorted := PySem.W.mg_none_of X G z10
    n_set := PySem.W.mg_none_of X G z11
    n_any := PySem.W.mg_none_of X G z12
    n_sum := PySem.W.mg_none_of X G z13
    n_max := PySem.W.mg_none_of X G z14
    n_repr := PySem.W.mg_none_of X G z15
    c_MOST_STATES := ⟨_, PySem.W.mg_of X G y0⟩
    c_MOST_MESSAGES := ⟨_, PySem.W.mg_of X G y1⟩
    c_GREATEST_MESSAGE := ⟨_, PySem.W.mg_of X G y2⟩
    c_LAST_WINDOW := ⟨_, PySem.W.mg_of X G y3⟩
  }
  have gl : T.law.f = fa := Value.ref.inj (Option.some.inj (T.law.g.symm.trans hfa))
  refine ⟨T.law.fd, fun s v => ?_, fun base _ _ => ?_⟩
  · exact (T.law.bind1 s v)
  · rw [← gl]; exact ok_law T
end Nv
open PySem PySem.W PyProof.Rows
set_option maxRecDepth 100000 in
set_option maxHeartbeats 0 in
theorem PySem.Challenge.cw_neverfour_k33_least_books_have_the_same_holds : PySem.Challenge.rw_neverfour_k33_least_books_have_the_same.Holds := by
  w_on; o_law; k_head; (case hw => w_witness2)
  k_fill
  refine Nv.endG (l := PySem.Challenge.rw_neverfour_k33_least_books_have_the_same) (n := 63) (k := 10) (x := "script") (sp := Nv.spLaw) rfl (by decide) rfl ⟨rfl, by decide, by decide⟩ (fun w h Y => PySem.W.kIn_of Y) ?F (fun _ _ a ns hl hS => ⟨a, ns, rfl, hS, hl, fun _ => rfl⟩)
  case F =>
    intro w mg fa h KX G hmg
    refine' Nv.all_mk KX G hmg ?a0 ?l0 ?c0 ?k0 ?a1 ?l1 ?c1 ?k1 ?a2 ?l2 ?c2 ?k2 ?a3 ?l3 ?c3 ?k3 ?df3 ?a4 ?l4 ?c4 ?k4 ?a5 ?l5 ?c5 ?k5 ?a6 ?l6 ?c6 ?k6 ?a7 ?l7 ?c7 ?k7 ?a8 ?l8 ?c8 ?k8 ?a9 ?l9 ?c9 ?k9 ?a10 ?l10 ?c10 ?k10 ?a11 ?l11 ?c11 ?k11 ?a12 ?l12 ?c12 ?k12 ?a13 ?l13 ?c13 ?k13 ?a14 ?l14 ?c14 ?k14 ?a15 ?l15 ?c15 ?k15 ?a16 ?l16 ?c16 ?k16 ?a17 ?l17 ?c17 ?k17 ?a18 ?l18 ?c18 ?k18 ?a19 ?l19 ?c19 ?k19 ?a20 ?l20 ?c20 ?k20 ?a21 ?l21 ?c21 ?k21 ?a22 ?l22 ?c22 ?k22 ?a23 ?l23 ?c23 ?k23 ?a24 ?l24 ?c24 ?k24 ?a25 ?l25 ?c25 ?k25 ?a26 ?l26 ?c26 ?k26 ?a27 ?l27 ?c27 ?k27 ?a28 ?l28 ?c28 ?k28 ?a29 ?l29 ?c29 ?k29 ?a30 ?l30 ?c30 ?k30 ?a31 ?l31 ?c31 ?k31 ?a32 ?l32 ?c32 ?k32 ?a33 ?l33 ?c33 ?k33 ?a34 ?l34 ?c34 ?k34 ?a35 ?l35 ?c35 ?k35 ?a36 ?l36 ?c36 ?k36 ?a37 ?l37 ?c37 ?k37 ?a38 ?l38 ?c38 ?k38 ?a39 ?l39 ?c39 ?k39 ?a40 ?l40 ?c40 ?k40 ?z0 ?z1 ?z2 ?z3 ?z4 ?z5 ?z6 ?z7 ?z8 ?z9 ?z10 ?z11 ?z12 ?z13 ?z14 ?z15 ?y0 ?y1 ?y2 ?y3
    (case a0 => k_is); (case l0 => k_is); (case c0 => k_is); (case k0 => k_is); (case a1 => k_is); (case l1 => k_is)
    (case c1 => k_is); (case k1 => k_is); (case a2 => k_is); (case l2 => k_is); (case c2 => k_is); (case k2 => k_is)
    (case a3 => k_is); (case l3 => k_is); (case c3 => k_is); (case k3 => k_is); (case df3 => k_is); (case a4 => k_is)
    (case l4 => k_is); (case c4 => k_is); (case k4 => k_is); (case a5 => k_is); (case l5 => k_is); (case c5 => k_is)
    (case k5 => k_is); (case a6 => k_is); (case l6 => k_is); (case c6 => k_is); (case k6 => k_is); (case a7 => k_is)
    (case l7 => k_is); (case c7 => k_is); (case k7 => k_is); (case a8 => k_is); (case l8 => k_is); (case c8 => k_is)
    (case k8 => k_is); (case a9 => k_is); (case l9 => k_is); (case c9 => k_is); (case k9 => k_is); (case a10 => k_is)
    (case l10 => k_is); (case c10 => k_is); (case k10 => k_is); (case a11 => k_is); (case l11 => k_is); (case c11 => k_is)
    (case k11 => k_is); (case a12 => k_is); (case l12 => k_is); (case c12 => k_is); (case k12 => k_is); (case a13 => k_is)
    (case l13 => k_is); (case c13 => k_is); (case k13 => k_is); (case a14 => k_is); (case l14 => k_is); (case c14 => k_is)
    (case k14 => k_is); (case a15 => k_is); (case l15 => k_is); (case c15 => k_is); (case k15 => k_is); (case a16 => k_is)
    (case l16 => k_is); (case c16 => k_is); (case k16 => k_is); (case a17 => k_is); (case l17 => k_is); (case c17 => k_is)
    (case k17 => k_is); (case a18 => k_is); (case l18 => k_is); (case c18 => k_is); (case k18 => k_is); (case a19 => k_is)
    (case l19 => k_is); (case c19 => k_is); (case k19 => k_is); (case a20 => k_is); (case l20 => k_is); (case c20 => k_is)
    (case k20 => k_is); (case a21 => k_is); (case l21 => k_is); (case c21 => k_is); (case k21 => k_is); (case a22 => k_is)
    (case l22 => k_is); (case c22 => k_is); (case k22 => k_is); (case a23 => k_is); (case l23 => k_is); (case c23 => k_is)
    (case k23 => k_is); (case a24 => k_is); (case l24 => k_is); (case c24 => k_is); (case k24 => k_is); (case a25 => k_is)
    (case l25 => k_is); (case c25 => k_is); (case k25 => k_is); (case a26 => k_is); (case l26 => k_is); (case c26 => k_is)
    (case k26 => k_is); (case a27 => k_is); (case l27 => k_is); (case c27 => k_is); (case k27 => k_is); (case a28 => k_is)
    (case l28 => k_is); (case c28 => k_is); (case k28 => k_is); (case a29 => k_is); (case l29 => k_is); (case c29 => k_is)
    (case k29 => k_is); (case a30 => k_is); (case l30 => k_is); (case c30 => k_is); (case k30 => k_is); (case a31 => k_is)
    (case l31 => k_is); (case c31 => k_is); (case k31 => k_is); (case a32 => k_is); (case l32 => k_is); (case c32 => k_is)
    (case k32 => k_is); (case a33 => k_is); (case l33 => k_is); (case c33 => k_is); (case k33 => k_is); (case a34 => k_is)
    (case l34 => k_is); (case c34 => k_is); (case k34 => k_is); (case a35 => k_is); (case l35 => k_is); (case c35 => k_is)
    (case k35 => k_is); (case a36 => k_is); (case l36 => k_is); (case c36 => k_is); (case k36 => k_is); (case a37 => k_is)
    (case l37 => k_is); (case c37 => k_is); (case k37 => k_is); (case a38 => k_is); (case l38 => k_is); (case c38 => k_is)
    (case k38 => k_is); (case a39 => k_is); (case l39 => k_is); (case c39 => k_is); (case k39 => k_is); (case a40 => k_is)
    (case l40 => k_is); (case c40 => k_is); (case k40 => k_is); (case z0 => k_is); (case z1 => k_is); (case z2 => k_is)
    (case z3 => k_is); (case z4 => k_is); (case z5 => k_is); (case z6 => k_is); (case z7 => k_is); (case z8 => k_is)
    (case z9 => k_is); (case z10 => k_is); (case z11 => k_is); (case z12 => k_is); (case z13 => k_is); (case z14 => k_is)
    (case z15 => k_is); (case y0 => k_is); (case y1 => k_is); (case y2 => k_is); (case y3 => k_is)
