import PyProof.Rows.All
import Wide.All
import OpenK.AllK
import Wide.FinOn
import PyProof.EqAt
import PyProof.EqKinds
import PyProof.TupleCall
import KE.KExcSuper
import HandS.Base
import HandS.Call
import HandS.List
import HandS.Dict
import HandS.More
import HandS.Exc
import HandS.ExcInit
import HandS.Codes
import HandS.ExcSuper
import HandS.Strs
import HandS.SetKeys
import HandS.ForMost
import HandS.IsInst
import HandS.ForExc
import HandS.Conv
import HandS.StrMore
import HandS.DictComp
import HandS.Property
import HandS.TupAny
import HandS.TupMul
import HandS.Zip
import HandS.FStr
import HandS.Steps
import HandS.Walk
import HandS.Wide
import HandS.WideMore
import HandS.Deep
import HandS.Text
import HandS.Sort
import HandS.DeepEq
import HandS.OwnEq
import HandS.ExcOwn
import HandS.ExcIs
import HandS.ExcField
import HandS.DictEq
import HandS.RaiseMore
import HandS.ExcCtx
import HandS.HeadHook1
import HandS.HeadHook2
import HandS.HeadHook3
import HandS.TryMany
import KE.KStateDown
import HandS.Head0
import HandS.Head1
import HandS.Head2
import HandS.HeadEnd
import PySem.Challenge.RW_standsfor_k85_texts_of_events
set_option Elab.async false
set_option linter.all false
set_option maxRecDepth 100000
set_option maxHeartbeats 4000000
/-! rules of our own: a written table's get; an own exception whose __init__ begins with super().__init__(text) -/
namespace G0
open PySem PySem.Spec PyProof.Rows L2
/-! ### get of a written dict with text keys -/
def KD (K : PySem.W.Frag) (w : World) (p : Addr) : Prop := ∃ es n, KDict K w p es n
def tKGet (K : PySem.W.Frag) (w : World) (td ty : TE) : TE := fun σ H Q => td σ H fun x H1 => ∃ p, x = .ref p ∧ KD K w p ∧ ty σ H1 fun y H2 => ∃ z r, y = .str z ∧ PySem.W.nsIn K p z = some r ∧
  (∀ u, r = some u → ∃ v, RelV v u ∧ Q v H2) ∧ (r = none → Q .non H2)
section
variable {X : Cx} {o e : Expr} {apos cpos : Pos} {td ty : TE}
theorem pe_kget (ho : PE X o td) (he : PE X e ty) (m : M1 X o "get" apos e cpos) : PE X (.Call (.Attribute o "get" apos) [e] [] cpos) (tKGet X.K X.w td ty) := by
  refine ⟨fun pins s σ H Q I h => ?_⟩
  refine wpAny_Call_method m.base m.few m.line PySem.F.plainAttrs_dict PySem.F.slot_dict_get PySem.F.type_dict_get (thn (ho.run pins s σ H _ I h) fun u s1 ⟨x, H1, I1, rx, p, ex, ⟨es, n, D⟩, q1⟩ => ?_)
  subst ex
  obtain rfl : u = Value.ref p := rx
  refine ⟨kd_type D I1, fun b q => ?_, ?_⟩
  · cases q
    exact ⟨_, I1.kIn _ _ D.at_, rfl⟩
  rw [m.trees]
  refine Calls.callWith_builtin rfl (Calls.evalArgs_plain (Calls.spliced_cons (thn (he.run pins s1 σ H1 _ I1 q1) fun iv s2 ⟨y, H2, I2, ry, z, r, ey, en, q2, q3⟩ => Calls.spliced_nil ?_)))
  subst ey
  obtain ⟨t, rfl⟩ := ry
  have hm := PySem.W.mapOf_K (prog := X.prog) (w := X.w) I2.kIn D.at_ D.lit
  refine call_meetsIn PySem.F.slot_dict_get hm.typeIs PySem.F.entry_dict_get (PySem.F.args_dict_get_2 _ _) (meets_dict_get (strKind X.prog X.w) p (strKind_is X.prog X.w z t) D.low) ⟨_, hm, ?_⟩
  have hf := PySem.W.find_K D.at_ en
  rw [hf]
  cases r with
  | none => exact ⟨.non, H2, I2.tok _, rfl, q3 rfl⟩
  | some u =>
    obtain ⟨v, rv, q⟩ := q2 u rfl
    exact ⟨v, H2, I2.tok _, rv, q⟩
end
end G0

set_option Elab.async false
set_option linter.all false
set_option maxRecDepth 100000
set_option maxHeartbeats 4000000
namespace G1
open PySem PySem.Spec PySem.Calls PySem.W PyProof.Rows
section
variable {prog : Program} {w : World} {A : Around} {E : Value → Shared → Prop} {h : Heap} {g : Array GenState} {d : Drawn} {t : Nat} {os : OsState}
variable {nm q : Str} {C N : Addr} {bs bm : List Value} {hdct : Bool} {sn : List Str} {sub : List Value} {ab : Bool} {col : Option Bool} {dd : Option Addr} {k0 k1 k2 k3 k5 : Option Value}
/-- the bound ValueError.__init__, called -/
theorem call_bw {u e t0 : Addr} {rest : List Value} {Q : Value → Shared → Prop}
    (hC : h.get? C = some (excClassObj nm q C N bs bm hdct sn sub ab col dd k0 k1 k2 k3 k5 "ValueError.__new__")) (he : h.get? e = some (HandSPX.excO C t0)) (hu : h.get? u = some (kxs_mw "ValueError.__init__" e)) (hrest : rest.length ≤ sizeLine)
    (hq : ∀ h' t1, (∀ b o, b ≠ e → h.get? b = some o → h'.get? b = some o) → h'.get? e = some (HandSPX.excO C t1) → Q .none ⟨h', g, d, t, os⟩) :
    wpAny (model prog w) A (call (.ref u) rest) Q E ⟨h, g, d, t, os⟩ := by
  refine wpAny_call (codeAny_of_tree ?_)
  show wpAny _ A.in1 (callAny (.ref u) ⟨rest, []⟩) _ _ _
  simp only [callAny]
  refine wpAny_bind (wpAny_load hu ?_)
  simp only [kxs_mw, show (Value.type "method-wrapper" == Value.type "method" || Value.type "method-wrapper" == Value.type "builtin_function_or_method" || Value.type "method-wrapper" == Value.type "method-wrapper") = true by decide, if_true]
  refine KFB.if_so (by decide) ?_
  refine wpAny_bind (PySem.ESX.check_bound F.excBase_ValueError hC he rfl ?_)
  refine wpAny_bind (wpAny_pure (wpAny_pure ?_))
  refine ⟨Code.quiet_builtin _ (by decide +kernel), codeAny_builtin F.excBase_ValueError.initEntry ?_⟩
  rw [Around.under_plainId F.excBase_ValueError.init.plain _]
  wp_walk
  refine hq _ h.objs.size (fun b o hb ho => ?_) ?_
  · rw [Heap.get?_update_other _ _ (Ne.symm hb)]
    exact Heap.get?_push_of_some _ ho
  · rw [Heap.get?_update_self _ (Heap.get?_push_of_some _ he) rfl]
    rfl
end
/-- what the written part says of an own exception class at C whose __init__ (at f) begins with super().__init__(text) -/
structure SupC (K : Frag) (prog : Program) (C f cc cda : Addr) (fd : FuncData) : Prop where
  cls : ∃ nm q N bs bm sn sub ab col dd k0 k1 k2 k3 k5, K.lookup C = some (excClassObj nm q C N bs bm true sn sub ab col dd k0 k1 k2 k3 k5 "ValueError.__new__") ∧ HandSPX.refsVE bm = true
  fn : ∃ oc od osl, K.lookup f = some ⟨oc, od, .func fd, osl⟩
  code : ∃ ccl cdd vs ccs file tf, K.lookup cda = some ⟨ccl, cdd, .fields vs, ccs⟩ ∧ vs[2]? = some (.str file tf) ∧ ((prog.main.file : Str) == file) = true
  cell : ∃ cl cld csl, K.lookup cc = some ⟨cl, cld, .cell (some (.ref C)), csl⟩
  mro : mroIn K C (.ref C) = some true
  opq : nsIn K cStatics "thirdparty.any" = some none
  along : ks_superIn K C C "__init__" = some (some (.builtin "ValueError.__init__"))
  sub : subIn K (.ref C) (.type "ValueError") = some true
  top : (prog.main.scope.names.lookup ("super" : Str)).isSome = false
section
variable {prog : Program} {w : World} {A : Around} {E : Value → Shared → Prop} {K : Frag} {mg mb m : Str → Option Value} {C f cc cda x t1 L : Addr} {fd : FuncData} {hh : Heap} {g : Array GenState} {d : Drawn} {tk : Nat} {os : OsState}
theorem super_raw {body : List Stmt} {qual : Str} {scope : Scope} {p0 p1 p2 p3 p4 p5 : Pos} {mz : Str} {jz : Nat} {ar : Arg} {pl : Sem Bool} {Q : Flow → Shared → Prop}
    (T : SupC K prog C f cc cda fd) (X : K.In hh) (G : hh.Ns mainGlobals mg) (hsup : mg "super" = none) (B : hh.Ns builtinsNs mb) (hB : mb "super" = some (.type "super"))
    (hp : (fd.params.posonlyargs ++ fd.params.args).head? = some ar) (hn : hh.Ns L m) (hv : m ar.arg = some (.ref x)) (hx : hh.get? x = some (HandSPX.excO C t1))
    (hks : scope.names.lookup ("super" : Str) = some .globalImplicit) (hkc : scope.names.lookup ("__class__" : Str) = some .free) (hka : scope.names.lookup ar.arg = some .local) (hk : scope.kind = .function)
    (hcall : eval (.Call (.Attribute (.Call (.Name "super" p0) [] [] p1) "__init__" p2) [.Constant (.str mz) jz p3] [] p4) (ksEnv qual scope L f (.ref cda) cc) = (do
      let ov ← attributeBase (.Call (.Name "super" p0) [] [] p1) "__init__" (ksEnv qual scope L f (.ref cda) cc) (eval (.Call (.Name "super" p0) [] [] p1) (ksEnv qual scope L f (.ref cda) cc))
      standAt p2.atName
      let (fz, first) ← holding [ov] (getMethod ov "__init__" pl)
      callWith p4 fz first (backTo p4 (starEach [.Constant (.str mz) jz p3] (ksEnv qual scope L f (.ref cda) cc))) []))
    (hi : interactive (ksEnv qual scope L f (.ref cda) cc) = false) (hsw : swapsWith (.Call (.Attribute (.Call (.Name "super" p0) [] [] p1) "__init__" p2) [.Constant (.str mz) jz p3] [] p4) none p5.line (ksEnv qual scope L f (.ref cda) cc) = pure false)
    (hq : ∀ h' tk' t2, (∀ b o, b ≠ x → hh.get? b = some o → h'.get? b = some o) → h'.get? x = some (HandSPX.excO C t2) → Q .next ⟨h', g, d, tk', os⟩) :
    _root_.PySem.wpAt (model prog w) A (.func body (ksEnv qual scope L f (.ref cda) cc)) (exec (.Expr (.Call (.Attribute (.Call (.Name "super" p0) [] [] p1) "__init__" p2) [.Constant (.str mz) jz p3] [] p4) p5) (ksEnv qual scope L f (.ref cda) cc)) Q E ⟨hh, g, d, tk, os⟩ := by
  obtain ⟨nm, q, N, bs, bm, sn, sub, ab, col, dd, k0, k1, k2, k3, k5, hC, hbm⟩ := T.cls
  obtain ⟨oc, od, osl, hf⟩ := T.fn
  obtain ⟨ccl, cdd, vs, ccs, file, tf, hcode, hvs, hfile⟩ := T.code
  obtain ⟨cl, cld, csl, hcell⟩ := T.cell
  have hcd : clsIn K C = some { name := nm, bases := bs, mro := .ref C :: bm, ns := N, qualname := q, hasDict := true, slotNames := sn, subclasses := sub, abstract := ab, collection := col, hasDel := false } := by unfold clsIn; rw [hC] <;> rfl
  have I : InstAt hh x (HandSPX.excO C t1) C none := ⟨hx, rfl, rfl, trivial⟩
  refine ks_wpAt_Expr_any ?_ hi hsw
  refine ks_wpAt_MethodCall (he := hcall) ?_
  refine ks_wpAt_super_base (env := ksEnv qual scope L f (.ref cda) cc) hks hkc rfl rfl (X _ _ hf) rfl hp rfl (X _ _ hcode) rfl hvs hfile T.top ?_
  refine ks_loadName_global hk hks (loadGlobal_builtin (env := ksEnv qual scope L f (.ref cda) cc) G hsup B hB ⟨rfl, ?_⟩)
  refine wpAny_loadName_free hk hkc rfl ⟨_, X _ _ hcell, rfl⟩ ?_
  refine wpAny_loadName_local hk hka hn hv ?_
  have hD1 : hh.get? C = some (excClassObj nm q C N bs bm true sn sub ab col dd k0 k1 k2 k3 k5 "ValueError.__new__") := X _ _ hC
  refine ks_wpAny_isType_cls hD1 rfl ⟨rfl, ?_⟩
  refine ks_wpAny_call_super hD1 rfl I.at_ I.cls (fun c e => by cases e) (looks_mroIn X T.mro) (fun h1 e1 kp1 => ?_)
  have X1 : K.In h1 := X.keeps kp1
  have I1 : InstAt h1 x (HandSPX.excO C t1) C none := ⟨kp1 _ _ hx, rfl, rfl, trivial⟩
  have hne : x ≠ C := ks_ne X1 I1 hcd
  have hal := T.along
  unfold ks_superIn at hal
  rw [hcd] at hal
  refine kxs_getMethod kxs_ValueError e1 (looks_opaque X1 T.opq) (l₀ := .ref C :: bm) ?_ rfl X1 hal (I1.type.andThen (looks_subIn X1 T.sub)) hne rfl ?_
  · exact fun A Q E s k q => wpAny_bind ((looks_clsIn X1 hcd) A _ E s k (wpAny_pure q))
  have kp2 : ∀ b o, h1.get? b = some o → (h1.push (kxs_mw "ValueError.__init__" x)).get? b = some o := fun b o e => Heap.get?_push_of_some _ e
  have hu : (h1.push (kxs_mw "ValueError.__init__" x)).get? h1.objs.size = some (kxs_mw "ValueError.__init__" x) := Heap.get?_push_at rfl rfl
  refine kxs_callWith (i := "ValueError.__init__") (x := x) rfl ?_
  refine evalArgs_plain (args_cons (wpAny_Constant_str (args_nil ⟨hu, ?_⟩)) rfl)
  refine call_bw (kp2 _ _ (X1 _ _ hC)) (kp2 _ _ (kp1 _ _ hx)) hu (by show 1 ≤ sizeLine; rw [sizeLine_eq]; decide) fun h' t2 k' hx' => ?_
  exact hq _ _ t2 (fun b o hb e => k' b o hb (kp2 _ _ (kp1 _ _ e))) hx'
end
end G1
namespace G1
open PySem PySem.Spec PyProof.Rows L2
open PySem.W (ksEnv ksFn)
theorem lookup_rev {l : List (Str × Value)} {y : Str} {u : Value} (h : (y, u) ∈ l) (nd : (l.map (·.1)).Nodup) : l.reverse.lookup y = some u := by
  have hm : (y, u) ∈ l.reverse := List.mem_reverse.mpr h
  have nd2 : (l.reverse.map (·.1)).Nodup := by
    rw [List.map_reverse]
    exact List.pairwise_reverse.mpr (List.Pairwise.imp (fun h => Ne.symm h) nd)
  generalize l.reverse = r at hm nd2
  induction r with
  | nil => cases hm
  | cons p r ih =>
    obtain ⟨z, v⟩ := p
    rw [List.map_cons, List.nodup_cons] at nd2
    rcases List.mem_cons.mp hm with e | e
    · obtain ⟨rfl, rfl⟩ := Prod.mk.inj e
      simp [List.lookup]
    · have hne : (y == z) = false := by
        rw [beq_eq_false_iff_ne]
        rintro rfl
        exact nd2.1 (List.mem_map_of_mem (f := (·.1)) e)
      simp only [List.lookup, hne]
      exact ih e nd2.2
/-- names: the parameters first; nothing is free but __class__ -/
structure SScope (N P : List Str) (sc : Scope) : Prop where
  kind : sc.kind = .function
  co : sc.isCoroutine = false
  gen : sc.isGenerator = false
  nd : N.Nodup
  pre : N.take P.length = P
  par : ∀ x ∈ P, sc.names.lookup x = some .local
  nocell : ∀ y ∈ sc.names, y.2 ≠ .cell
  free1 : ∀ y ∈ sc.names, y.2 = .free → y.1 = "__class__"
  fr : sc.names.lookup ("__class__" : Str) = some .free
def cxS (CX : CXT) (P : Program) (w : World) (K : PySem.W.Frag) (mg : Str → Option Value) (base : Heap) (N : List Str) (qual : Str) (scope : Scope) (f cc : Addr) (cd : Value) (A : Around) (outer : List Env) (s : Shared) (H : Hp) (E : XK) : Cx where
  prog := P
  w := w
  K := K
  mg := mg
  base := base
  A := A.deeper (ksEnv qual scope s.heap.objs.size f cd cc)
  N := N
  s_0 := s
  H_0 := H
  env := ksEnv qual scope s.heap.objs.size f cd cc
  outer := outer
  stack := ksEnv qual scope s.heap.objs.size f cd cc :: outer
  ex := []
  calm := true
  fn := fun x => !(x == ("__class__" : Str))
  pn := []
  xe := fun e s' => wpAny (model P w) (A.deeper (ksEnv qual scope s.heap.objs.size f cd cc)) (leaving (ksEnv qual scope s.heap.objs.size f cd cc) e) (fun _ s'' => CX outer H s E e s'') (fun e' s'' => CX outer H s E e' s'') s'
theorem inv_startS {CX : CXT} {P : Program} {w : World} {K : PySem.W.Frag} {mg : Str → Option Value} {base : Heap} {N ps : List Str} {qual : Str} {scope : Scope} {f cc : Addr} {cd : Value} {A : Around} {outer : List Env} {s : Shared} {H : Hp} {E : XK} {us : List Value} {vs : List V}
    {h1 : Heap} {tk : Nat} (S : SScope N ps scope) (hd : A.handled = none) (e0 : Env0 P w K mg base A outer s H) (hl : vs.length = ps.length) (r : Vals vs us) (hcc : ∃ oc v, K.lookup cc = some oc ∧ oc.data = .cell (some v))
    (hns : h1.Ns s.heap.objs.size (fun x => (ps.zip us).reverse.lookup x)) (hk : ∀ b o, s.heap.get? b = some o → h1.get? b = some o) :
    Inv (cxS CX P w K mg base N qual scope f cc cd A outer s H E) [] (L2.start N vs) H { s with heap := h1, toks := tk } := by
  have hpl : ps.length ≤ N.length := by have := congrArg List.length S.pre; rw [List.length_take] at this; omega
  have noA : ∀ b : Addr, b ∉ (cxS CX P w K mg base N qual scope f cc cd A outer s H E).ex := fun b z => absurd (show b ∈ ([] : List Addr) from z) (by simp)
  have cl : ∀ y c, (cxS CX P w K mg base N qual scope f cc cd A outer s H E).env.cells.lookup y = some c → y = ("__class__" : Str) ∧ c = cc := fun y c h => by
    have h' : List.lookup y [(("__class__" : Str), cc)] = some c := h
    by_cases e : y = ("__class__" : Str)
    · subst e
      simp [List.lookup] at h'
      exact ⟨rfl, h'.symm⟩
    · have e2 : (y == ("__class__" : Str)) = false := by simpa using e
      simp [List.lookup, e2] at h'
  have hcl : (cxS CX P w K mg base N qual scope f cc cd A outer s H E).env.cells.lookup ("__class__" : Str) = some cc := by
    show List.lookup ("__class__" : Str) [(("__class__" : Str), cc)] = some cc
    simp [List.lookup]
  obtain ⟨oc, cv, hc1, hc2⟩ := hcc
  have hb1 : base.get? cc = some oc := e0.mod.kin _ _ hc1
  have hb2 := e0.bs _ _ hb1
  refine ⟨⟨e0.mod, S.kind, rfl, rfl, Nat.le_refl _, fun y z c h1 h2 => ?_, fun y hy => ?_, fun y c hf h => ?_, fun _ => hd, Around.frames_deeper e0.frames, .inr ⟨rfl, rfl⟩, fun b z => absurd z (noA b), e0.bs, e0.bsz, fun b _ _ => noA b, fun b z => absurd z (noA b), e0.funs, e0.frf⟩,
    rfl, e0.bare, Un.kept hk, ⟨_, hns, fun i y v h1 h2 h3 => ?_⟩, fun y c h => ?_, e0.hok.fresh (Nat.le_refl _), fun y c h => ?_, fun p hp => absurd (show p ∈ ([] : List (Addr × Obj)) from hp) (by simp), e0.hok.kept hk, ?_⟩
  · exact (cl y c h1).1.trans (cl z c h2).1.symm
  · have hy : scope.names.lookup y = some .cell ∨ scope.names.lookup y = some .free := hy
    rcases hy with hy | hy
    · exact absurd rfl (S.nocell _ (PySem.mem_of_lookup hy))
    · have e := S.free1 _ (PySem.mem_of_lookup hy) rfl
      have e : y = ("__class__" : Str) := e
      subst e
      exact ⟨cc, hcl⟩
  · have e := (cl y c h).1
    subst e
    have hf' : (!((("__class__" : Str)) == ("__class__" : Str))) = true := hf
    simp at hf'
  · have hi : i < vs.length := by
      unfold L2.start at h2
      by_cases hi : i < vs.length
      · exact hi
      · rw [List.getElem?_append_right (by simpa using hi)] at h2
        rw [List.getElem?_replicate] at h2
        split at h2 <;> cases h2
    have ha : vs[i]? = some v := by
      unfold L2.start at h2
      rw [List.getElem?_append_left (by simpa using hi), List.getElem?_map] at h2
      cases e : vs[i]? with
      | none => rw [e] at h2; cases h2
      | some a => rw [e] at h2; cases h2; rfl
    obtain ⟨u, hu, rv⟩ := r.get ha
    have hp : ps[i]? = some y := by
      rw [← S.pre, List.getElem?_take_of_lt (by omega)]; exact h1
    have ndP : ps.Nodup := by rw [← S.pre]; exact S.nd.sublist (List.take_sublist _ _)
    refine ⟨u, rv, .inl ⟨S.par y (List.mem_of_getElem? hp), ?_⟩⟩
    refine lookup_rev (List.mem_of_getElem? (i := i) ?_) ?_
    · rw [List.getElem?_zip_eq_some]
      exact ⟨hp, hu⟩
    · have hz : (ps.zip us).map (·.1) = ps := List.map_fst_zip (Nat.le_of_eq (by rw [← hl]; exact r.length))
      rw [hz]
      exact ndP
  · obtain ⟨rfl, rfl⟩ := cl y c h
    exact ⟨some cv, oc, hk _ _ hb2.1, hc2⟩
  · obtain ⟨rfl, rfl⟩ := cl y c h
    exact hb2.2
  · unfold L2.start
    show _ = N.length
    rw [List.length_append, List.length_map, List.length_replicate]
    omega

/-- a def whose first statement is super().__init__(text), of an own exception class -/
theorem fn_ofS {CX : CXT} {P : Program} {w : World} {K : PySem.W.Frag} {mg : Str → Option Value} {base : Heap} {k : Nat} {f cc cda C : Addr} {name qual sn : Str} {params : Arguments} {rest : List Stmt} {scope : Scope} {dV kV doc pm ct : Value} {an : Option Addr}
    {p0 p1 p2 p3 p4 p5 : Pos} {mz : Str} {jz : Nat} {ar : Arg} {pl : Addr → Sem Bool} {N ps : List Str} {sp : Sp}
    (T : SupC K P C f cc cda (ksFn name qual params (.Expr (.Call (.Attribute (.Call (.Name "super" p0) [] [] p1) "__init__" p2) [.Constant (.str mz) jz p3] [] p4) p5 :: rest) scope dV kV doc pm an (.ref cda) ct cc))
    (hcd : PySem.W.codeIn K (.ref cda) qual = true) (S : SScope N (sn :: ps) scope) (hp : (params.posonlyargs ++ params.args).head? = some ar) (har : ar.arg = sn)
    (hsup : mg "super" = none) (hboot : bootBuiltins "super" = some (.type "super")) (hks : scope.names.lookup ("super" : Str) = some .globalImplicit)
    (hcall : ∀ L : Addr, eval (.Call (.Attribute (.Call (.Name "super" p0) [] [] p1) "__init__" p2) [.Constant (.str mz) jz p3] [] p4) (ksEnv qual scope L f (.ref cda) cc) = (do
      let ov ← attributeBase (.Call (.Name "super" p0) [] [] p1) "__init__" (ksEnv qual scope L f (.ref cda) cc) (eval (.Call (.Name "super" p0) [] [] p1) (ksEnv qual scope L f (.ref cda) cc))
      standAt p2.atName
      let (fz, first) ← holding [ov] (getMethod ov "__init__" (pl L))
      callWith p4 fz first (backTo p4 (starEach [.Constant (.str mz) jz p3] (ksEnv qual scope L f (.ref cda) cc))) []))
    (hi : ∀ L : Addr, interactive (ksEnv qual scope L f (.ref cda) cc) = false)
    (hsw : ∀ L : Addr, swapsWith (.Call (.Attribute (.Call (.Name "super" p0) [] [] p1) "__init__" p2) [.Constant (.str mz) jz p3] [] p4) none p5.line (ksEnv qual scope L f (.ref cda) cc) = pure false)
    (len : ∀ vs H Q E, sp vs H Q E → vs.length = (sn :: ps).length) (hself : ∀ vs H Q E, sp vs H Q E → ∃ a vs', vs = V.ref a :: vs' ∧ H a = some (exo a C none))
    (hbody : ∀ (A : Around) (outer : List Env) (s : Shared) (H : Hp) (vs : List V) (Q : VK) (E : XK), Room k (A.deeper (ksEnv qual scope s.heap.objs.size f (.ref cda) cc)) → sp vs H Q E →
      ∃ t, PSs (cxS CX P w K mg base N qual scope f cc (.ref cda) A outer s H E) rest t ∧ t { nx := fun _ H' => Q .non H', rt := Q } (L2.start N vs) H) :
    FnOk P w K mg base CX (k + 1) f (ksFn name qual params (.Expr (.Call (.Attribute (.Call (.Name "super" p0) [] [] p1) "__init__" p2) [.Constant (.str mz) jz p3] [] p4) p5 :: rest) scope dV kV doc pm an (.ref cda) ct cc) (sn :: ps) sp := by
  refine ⟨len, fun A outer s H args us vs Q E hr e0 hb r hsp => ?_⟩
  have hl := len _ _ _ _ hsp
  obtain ⟨a, vs', ev, hex⟩ := hself _ _ _ _ hsp
  have KX : K.In s.heap := e0.mod.kin.keeps fun b o e => (e0.bs b o e).1
  have lim : s.heap.NoLimit := e0.mod.nolimit.keeps fun b o e => (e0.bs b o e).1
  obtain ⟨oc, od, osl, hf⟩ := T.fn
  obtain ⟨cl, cld, csl, hcell⟩ := T.cell
  have hloc : ∀ y ∈ (sn :: ps).zip us, scope.names.lookup y.1 = some .local := fun ⟨n, v⟩ hy => S.par n (List.of_mem_zip hy).1
  refine PySem.ks_codeAny_call_defAt (binds := (sn :: ps).zip us) hr.depth (KX _ _ hf) rfl lim (PySem.W.codeRec_of KX hcd) rfl hb S.nocell hloc (fun h1 hns hk => ?_) S.co S.gen S.kind
  have I : Inv (cxS CX P w K mg base N qual scope f cc (.ref cda) A outer s H E) [] (L2.start N vs) H { s with heap := h1, toks := s.toks + ((sn :: ps).zip us).length } := inv_startS S hr.hd e0 hl r ⟨_, _, hcell, rfl⟩ hns hk
  obtain ⟨t, ht, hq⟩ := hbody A outer s H vs Q E (hr.deeper _) hsp
  refine PySem.ks_wpAt_execs_cons ?_
  subst ev
  obtain ⟨t1, ho⟩ := exo_at I.hok hex
  have hus : ∃ us', us = Value.ref a :: us' := by
    cases r with
    | @cons _ u _ us' ra rr =>
      obtain rfl : u = Value.ref a := ra
      exact ⟨us', rfl⟩
  obtain ⟨us', rfl⟩ := hus
  have ndP : (sn :: ps).Nodup := by rw [← S.pre]; exact S.nd.sublist (List.take_sublist _ _)
  have hv : (fun x => List.lookup x ((sn :: ps).zip (Value.ref a :: us')).reverse) ar.arg = some (Value.ref a) := by
    rw [har]
    refine lookup_rev (by simp [List.zip_cons_cons]) ?_
    have hz : ((sn :: ps).zip (Value.ref a :: us')).map (·.1) = sn :: ps := List.map_fst_zip (Nat.le_of_eq (by rw [← hl]; exact r.length))
    rw [hz]
    exact ndP
  obtain ⟨mb, hB1, hB2⟩ := e0.mod.blt
  obtain ⟨hh, g, d, tk, os⟩ := s
  refine super_raw (mb := mb) T I.kIn (e0.mod.glob.keeps I.bk) hsup (hB1.keeps I.bk) ((hB2 _ (by decide)).trans hboot) hp hns hv ho hks S.fr (by rw [har]; exact S.par _ List.mem_cons_self) S.kind (hcall _) (hi _) (hsw _) fun h' tk' t2 kp hx' => ?_
  have J := I.write (t' := tk') (x := a) (e := a) (o := exo a C none) (by rw [hex]; exact True.intro) (.inl rfl) kp ⟨_, hx'⟩ (exo_ok hx')
  have eu : upd H a (exo a C none) = H := by
    funext b
    by_cases hb : b = a
    · rw [hb, upd_same, hex]
    · rw [upd_ne hb]
  rw [eu] at J
  refine PySem.wpAt_of_wpAny ?_
  refine wpAny_mono (ht.run [] _ (L2.start N (V.ref a :: vs')) H _ J hq) (fun fl s' hs => ?_) fun e s' hs => hs
  have fin : ∀ {σ' : L2.St} {H' : Hp} {v : V} {u : Value}, Inv (cxS CX P w K mg base N qual scope f cc (.ref cda) A outer ⟨hh, g, d, tk, os⟩ H E) [] σ' H' s' → RelV v u → Q v H' → CE outer P w H ⟨hh, g, d, tk, os⟩ Q u s' :=
    fun {σ' H' v u} J rv q => ⟨v, H', J.os, J.bare, J.base, J.hok, rv, q⟩
  cases fl with
  | ret u =>
    obtain ⟨v, σ', H', J, rv, q⟩ := hs
    exact fin J rv q
  | next =>
    obtain ⟨σ', H', J, q⟩ := hs
    exact fin (v := V.non) (u := Value.none) J rfl q
  | brk =>
    obtain ⟨_, _, _, q⟩ := hs
    exact False.elim q
  | cont =>
    obtain ⟨_, _, _, q⟩ := hs
    exact False.elim q
end G1

set_option Elab.async false
set_option linter.all false
set_option maxRecDepth 100000
set_option maxHeartbeats 8000000
/-! set(t) of a tuple of keys of any kind; len(set(t)) of a tuple of texts -/
namespace G2
open PySem PySem.Spec PyProof.Rows
section
variable {K : Type} [DecidableEq K]
/-- the keys in the order in which they are first met -/
def met (val : Nat → K) : Nat → List K
  | 0 => []
  | i + 1 => if val i ∈ met val i then met val i else met val i ++ [val i]
theorem met_succ (val : Nat → K) (i : Nat) : met val (i + 1) = if val i ∈ met val i then met val i else met val i ++ [val i] := rfl
theorem met_len (val : Nat → K) : ∀ i, (met val i).length ≤ i
  | 0 => Nat.le_refl 0
  | i + 1 => by
    have ih := met_len val i
    rw [met_succ]
    split
    · omega
    · rw [List.length_append, List.length_singleton]; omega
theorem met_mem (val : Nat → K) (k : K) : ∀ i, k ∈ met val i ↔ ∃ j, j < i ∧ val j = k
  | 0 => by simp [met]
  | i + 1 => by
    have ih := met_mem val k i
    have e : k ∈ met val (i + 1) ↔ k ∈ met val i ∨ k = val i := by
      rw [met_succ]
      split
      · rename_i h
        exact ⟨.inl, fun z => z.elim id fun z => by rw [z]; exact h⟩
      · simp
    rw [e, ih]
    constructor
    · rintro (⟨j, hj, hk⟩ | rfl)
      · exact ⟨j, by omega, hk⟩
      · exact ⟨i, by omega, rfl⟩
    · rintro ⟨j, hj, hk⟩
      by_cases q : j = i
      · subst q; exact .inr hk.symm
      · exact .inl ⟨j, by omega, hk⟩
/-- as many as there are exactly if no two are alike -/
theorem met_full (val : Nat → K) : ∀ n, (met val n).length = n ↔ ∀ i j, i < n → j < n → val i = val j → i = j
  | 0 => by simp [met]
  | n + 1 => by
    have ih := met_full val n
    have hl := met_len val n
    rw [met_succ]
    split
    · rename_i h
      obtain ⟨j, hj, hk⟩ := (met_mem val (val n) n).mp h
      constructor
      · intro e; omega
      · intro q
        have := q j n (by omega) (by omega) hk
        omega
    · rename_i h
      rw [List.length_append, List.length_singleton]
      constructor
      · intro e i j hi hj hk
        have q := ih.mp (by omega)
        by_cases a : i = n
        · by_cases b : j = n
          · omega
          · exact absurd ((met_mem val (val n) n).mpr ⟨j, by omega, by rw [← hk, a]⟩) h
        · by_cases b : j = n
          · exact absurd ((met_mem val (val n) n).mpr ⟨i, by omega, by rw [hk, b]⟩) h
          · exact q i j (by omega) (by omega) hk
      · intro q
        have := ih.mpr fun i j hi hj hk => q i j (by omega) (by omega) hk
        omega
end
section
variable {K : Type} [DecidableEq K] [BEq K] [LawfulBEq K] {prog : Program} {w : World} {A : Around} {R : Result → Shared → Prop} {I : Addr} {fp wr : List Addr} {G : Array GenState → Array GenState → Prop} {n : Nat} {P : Nat → Value → Prop} {St : Nat → Shared → Prop}
theorem grow (knd : KeyKind prog w K) (W : WalksS prog w A.in1 I fp wr G n P St) (S : Addr) (hSf : S ∉ fp) (val : Nat → K) (hval : ∀ i v, P i v → knd.is (val i) v = true ∧ v.scannable = true) (hb : n + 1 < scanBound) :
    ∀ (k i : Nat) (s : Shared), n - i = k → i ≤ n → St i s → s.heap.SetOf knd S (fun q => decide (q ∈ met val i)) (met val i).length →
      (∀ s', Moved (S :: wr) G s s' → s'.heap.SetOf knd S (fun q => decide (q ∈ met val n)) (met val n).length → R (.ok (.ret .none)) s') →
      codeAny (model prog w) A (.builtin "set.update.loop" ⟨[.ref S, .ref I], []⟩) R s := by
  have nw : S ∉ wr := fun h => hSf (W.sub _ h)
  have sub : ∀ b ∈ wr, b ∈ S :: wr := fun b hb => List.mem_cons_of_mem _ hb
  have move : ∀ {i : Nat} {s s' : Shared}, s.heap.SetOf knd S (fun q => decide (q ∈ met val i)) (met val i).length → Moved wr G s s' → s'.heap.SetOf knd S (fun q => decide (q ∈ met val i)) (met val i).length := fun {i s s'} z m => by
    obtain ⟨o, es, ep, tb, ho, r⟩ := z
    exact ⟨o, es, ep, tb, m.heap S _ nw ho, r⟩
  intro k
  induction k with
  | zero =>
    intro i s hk hi hst hS hR
    obtain rfl : i = n := by omega
    refine codeAny_builtin F.entry_set_update_loop ?_
    rw [Around.under_plainId F.plain_set_update_loop _]
    show wpAny _ A.in1 (pyNext (.ref I) >>= _) _ _ s
    exact wpAny_bind (W.done s _ _ hst fun s' m => wpAny_pure (hR s' (m.mono sub) (move hS m)))
  | succ k ih =>
    intro i s hk hi hst hS hR
    have lt : i < n := by omega
    refine codeAny_builtin F.entry_set_update_loop ?_
    rw [Around.under_plainId F.plain_set_update_loop _]
    show wpAny _ A.in1 (pyNext (.ref I) >>= _) _ _ s
    refine wpAny_bind (W.item i s _ _ lt hst fun v s' hP hst' m => ?_)
    obtain ⟨hv, hsc⟩ := hval i v hP
    have hS1 := move hS m
    show wpAny _ A.in1 (holding [v] (setAdd S v) >>= _) _ _ s'
    refine wpAny_bind (wpAny_holding ?_)
    unfold setAdd
    refine wpAny_holding (wpAny_bind (knd.pyHash hv ?_))
    refine wpAny_setAddHashed_of (knd := knd) (s := { s' with toks := s'.toks + 1 }) hv hsc hS1 (by have := met_len val i; omega) fun h' sb S2 => ?_
    have S3 : h'.SetOf knd S (fun q => decide (q ∈ met val (i + 1))) (met val (i + 1)).length := by
      refine SetOf_congr S2 (fun q => ?_) ?_
      · show (decide (q ∈ met val i) || decide (q = val i)) = decide (q ∈ met val (i + 1))
        rw [← Bool.decide_or]
        refine decide_eq_decide.mpr ?_
        rw [met_succ]
        split
        · rename_i z
          exact ⟨fun y => y.elim id fun y => by rw [y]; exact z, .inl⟩
        · simp
      · rw [met_succ]
        by_cases z : val i ∈ met val i
        · rw [if_pos z, if_pos (decide_eq_true z)]
        · rw [if_neg z, if_neg (by rw [decide_eq_false z]; exact Bool.false_ne_true), List.length_append, List.length_singleton]
    refine wpAny_pure ⟨plainId_quiet F.plain_set_update_loop _, ih (i + 1) _ (by omega) lt (W.frame _ s' _ _ hst' (Nat.le_succ _) fun b hb o e => ?_) S3 fun s'' m2 S4 => ?_⟩
    · rw [sb.2 b (fun h => hSf (by rw [← h]; exact hb))]; exact e
    · refine hR s'' (Moved.trans W.gtrans ((m.mono sub).then_heap (Nat.le_succ _) fun b o hb e => ?_) m2) S4
      rw [sb.2 b (fun h => hb (by rw [h]; exact List.mem_cons_self))]; exact e
end

abbrev new0 (led : Bool) : Obj := { cls := .type "set", dict := none, data := .set #[] 0 (.fresh 0 0 led) }
section
variable {K : Type} [DecidableEq K] [BEq K] [LawfulBEq K] {prog : Program} {w : World} {A : Around} {E : Value → Shared → Prop} {s : Shared}
/-- what stands behind: the set of the met keys, at the first free place -/
def Made (knd : KeyKind prog w K) (s : Shared) (val : Nat → K) (n : Nat) (h' : Heap) : Prop :=
  h'.SetOf knd s.heap.objs.size (fun q => decide (q ∈ met val n)) (met val n).length ∧ ∀ b o, b < s.heap.objs.size → s.heap.get? b = some o → h'.get? b = some o
/-- set.__init__ on the new set and the tuple -/
theorem init_tuple (knd : KeyKind prog w K) {l : Addr} {items : Array Value} {val : Nat → K} {led : Bool} {R : Result → Shared → Prop}
    (hh : A.handled = none) (hl : s.heap.IsTuple l items) (hv : ∀ i v, items[i]? = some v → knd.is (val i) v = true ∧ v.scannable = true) (hb : items.size + 1 < scanBound)
    (hR : ∀ h' tk, Made knd s val items.size h' → R (.ok (.ret .none)) { s with heap := h', toks := tk }) :
    codeAny (model prog w) A (.call (.builtin "set.__init__") ⟨[.ref s.heap.objs.size, .ref l], []⟩) R { s with heap := s.heap.push (new0 led) } := by
  have hS : (s.heap.push (new0 led)).get? s.heap.objs.size = some (new0 led) := Heap.get?_push_size _ rfl
  have hT : Shared.TypeIs { s with heap := s.heap.push (new0 led) } (.ref s.heap.objs.size) "set" := ⟨_, hS, rfl⟩
  refine codeAny_call_builtin F.called_set.init.plain F.entry_set_init (check_set_init_1 hT ?_)
  have hlS : l < s.heap.objs.size := by obtain ⟨_, q, _⟩ := hl; exact Heap.lt_size q
  have hT1 : (s.heap.push (new0 led)).IsTuple l items := hl.push _
  obtain ⟨⟨ocls, odict, odata, oslots⟩, hol', hcl, nl, hdl⟩ := id hT1
  simp only at hcl hdl
  subst hcl; subst hdl
  have q1 := F.sub_tuple_set
  have q2 := F.sub_tuple_frozenset
  have q3 : (Value.type "tuple" == Value.type "dict") = false := by decide
  unfold Builtin.«set.__init__» noKeywords Builtin.Frozenset.updateFrom
  generalize hPI : pyIter = PI
  wp_walk
  subst hPI
  refine wpAny_pyIter_tuple hT1 (wpAny_bind (wpAny_runValue ?_))
  have hh3 : A.in1.in1.handled = none := by simp [hh]
  have ne1 : l ≠ (s.heap.push (new0 led)).objs.size := by
    rw [Heap.size_push]; exact Nat.ne_of_lt (Nat.lt_succ_of_lt hlS)
  have ne2 : s.heap.objs.size ∉ [(s.heap.push (new0 led)).objs.size, l] := by
    rw [Heap.size_push]
    intro z
    rcases List.mem_cons.mp z with z | z
    · exact Nat.ne_of_lt (Nat.lt_succ_self _) z
    · exact Nat.ne_of_gt hlS (List.mem_singleton.mp z)
  refine grow knd ((Walks.tuple hh3 _ l ne1 items).toS) s.heap.objs.size ne2 val hv hb (items.size - 0) 0 _ (by omega) (Nat.zero_le _) ?hst ?hz0 ?hz1
  case hst => exact ⟨⟨_, Heap.get?_push_size _ rfl, rfl, rfl⟩, Heap.IsTuple.push hT1 _⟩
  case hz0 => exact SetOf_congr ((setObjOf_fresh (knd := knd) led).setOf (Heap.get?_push_of_some _ hS) (by unfold scanBound; omega)) (fun _ => rfl) rfl
  case hz1 =>
    rintro ⟨h', g', d', tk', os'⟩ m z
    obtain rfl : g' = s.gens := m.gens
    obtain rfl : d' = s.drawn := m.drawn
    obtain rfl : os' = s.os := m.os
    show wpAny _ _ _ _ _ _
    refine wpAny_pure ?_
    show wpAny _ _ (ret Value.none) _ _ _
    refine wpAny_pure (hR h' tk' ⟨z, fun b o hb e => m.heap b o ?_ (Heap.get?_push_of_some _ (Heap.get?_push_of_some _ e))⟩)
    rw [Heap.size_push]
    intro y
    rcases List.mem_cons.mp y with y | y
    · exact Nat.ne_of_lt hb y
    · exact Nat.ne_of_lt (Nat.lt_succ_of_lt hb) (List.mem_singleton.mp y)
theorem set_tuple (knd : KeyKind prog w K) {l : Addr} {items : Array Value} {val : Nat → K} {Q : Value → Shared → Prop}
    (hh : A.handled = none) (hl : s.heap.IsTuple l items) (hv : ∀ i v, items[i]? = some v → knd.is (val i) v = true ∧ v.scannable = true) (hb : items.size + 1 < scanBound)
    (hq : ∀ h' tk, Made knd s val items.size h' → Q (.ref s.heap.objs.size) { s with heap := h', toks := tk }) :
    wpAny (model prog w) A (call (.type "set") [.ref l]) Q E s := by
  obtain ⟨c, tl, hmro⟩ := F.called_set.mro
  have hmade := F.called_set.made
  have hsub := F.called_set.sub
  refine wpAny_call (codeAny_of_tree (wpAny_pure ⟨Code.quiet_builtin _ (by decide +kernel), codeAny_builtin F.entry_type_call ?_⟩))
  rw [Around.under_plain (weight_type_call_type "set" [.ref l] []) rfl]
  have h1 := F.called_set.notType
  have h2 := F.called_set.canCreate
  have h3 := F.typeCall_set_1 (.ref l)
  repeat (any_goals (first | assumption | wp_step))
  refine codeAny_mono (code_set_new_1 (.ref l) (E := E) (Q₁ := fun obj s1 => ∃ led : Bool, obj = .ref s.heap.objs.size ∧ s1 = { s with heap := s.heap.push (new0 led) }) fun led => ⟨led, rfl, rfl⟩) fun r s1 hr => ?_
  cases r with
  | error e => exact hr
  | ok fl =>
    cases fl with
    | ret obj =>
      obtain ⟨led, rfl, rfl⟩ := hr
      have hS : (s.heap.push (new0 led)).get? s.heap.objs.size = some (new0 led) := Heap.get?_push_size _ rfl
      have hT : Shared.TypeIs { s with heap := s.heap.push (new0 led) } (.ref s.heap.objs.size) "set" := ⟨_, hS, rfl⟩
      have h4 := F.called_set.init.lookup
      have h5 := F.called_set.init.bind (.ref s.heap.objs.size)
      repeat (any_goals (first | assumption | wp_step))
      refine codeAny_mono (init_tuple (R := wants (fun r s2 => r = .none ∧ ∃ h' tk, s2 = { s with heap := h', toks := tk } ∧ Made knd s val items.size h') E) knd (by simp [hh]) hl hv hb fun h' tk m => ⟨rfl, h', tk, rfl, m⟩) fun r2 s2 hr2 => ?_
      cases r2 with
      | error e => exact hr2
      | ok fl2 =>
        cases fl2 with
        | ret r =>
          obtain ⟨rfl, h', tk, rfl, m⟩ := hr2
          repeat (any_goals (first | assumption | wp_step))
          exact hq _ _ m
        | _ => exact hr2.elim
    | _ => exact hr.elim
end

end G2
namespace L2
open PySem PySem.Spec PyProof.Rows
/-- len(set(t)), t a tuple of texts -/
def tLenSetT (K : PySem.W.Frag) (ta : TE) : TE := fun σ H Q => ta σ H fun x H1 => ∃ (l : Addr) (xs : List Str), x = .ref l ∧ SqT K H1 l (xs.map V.str) ∧ xs.length ≤ 1000 ∧ Q (.int (G2.met (fun i => xs.getD i Str.empty) xs.length).length) H1
section
variable {X : Cx}
theorem pe_lenSetT {a : Expr} {ta : TE} {p p2 q pos : Pos} (hc : X.calm = true) (hg : Gl X "len") (hm : X.mg "len" = none) (hg2 : Gl X "set") (hm2 : X.mg "set" = none) (ha : PE X a ta)
    (na : starEach [a] X.env = (false, eval a X.env) :: starEach [] X.env := by rfl) : PE X (.Call (.Name "len" p) [.Call (.Name "set" p2) [a] [] q] [] pos) (tLenSetT X.K ta) := by
  refine ⟨fun pins s σ H Q I h => ?_⟩
  refine Call_ (ld_blt I hg hm boot_len ?_)
  refine PyProof.Rows.callWith_builtin1 (PyProof.Rows.args_cons ?_ rfl) rfl rfl
  refine Call_ (ld_blt I hg2 hm2 boot_set ?_)
  refine PyProof.Rows.callWith_type1 (PyProof.Rows.args_cons (thn (ha.run pins s σ H _ I h) fun v s1 ⟨x, H1, I1, r1, q1⟩ => PyProof.Rows.args_nil ?_) na) na rfl
  obtain ⟨l, xs, rfl, hq, hn, q1⟩ := q1
  cases r1
  obtain ⟨its, r, pl, hz⟩ := I1.tuple hq
  have hl : its.toArray.size = xs.length := by rw [List.size_toArray, ← r.length, List.length_map]
  refine G2.set_tuple (strKind X.prog X.w) (val := fun i => xs.getD i Str.empty) (I1.ok.hd hc) pl (fun i v hv => ?_) (by rw [hl]; unfold scanBound; omega) fun h' tk ⟨hS, hk⟩ => ?_
  · have hv' : its[i]? = some v := by rw [← Array.getElem?_toList] at hv; exact hv
    have hi : i < xs.length := by
      have := (List.getElem?_eq_some_iff.mp hv').1
      rw [← r.length, List.length_map] at this
      exact this
    obtain ⟨u, hu, ru⟩ := r.get (i := i) (x := .str xs[i]) (by rw [List.getElem?_map, List.getElem?_eq_getElem hi]; rfl)
    rw [hv'] at hu
    obtain rfl := Option.some.inj hu
    obtain ⟨t, rfl⟩ := ru
    refine ⟨?_, rfl⟩
    show (strKind X.prog X.w).is (xs.getD i Str.empty) (.str xs[i] t) = true
    rw [List.getD_eq_getElem?_getD, List.getElem?_eq_getElem hi]
    exact strKind_is _ _ _ _
  · refine PyProof.Rows.args_nil ?_
    rw [hl] at hS
    obtain ⟨o, es, ep, t, ho, hex, hd, _, _, _, hf, hz2⟩ := hS
    have I2 : Inv X pins σ H1 { s1 with heap := h', toks := tk } := I1.kept fun b o e => hk b o (Heap.lt_size e) e
    have hle := G2.met_len (fun i => xs.getD i Str.empty) xs.length
    exact call_len_set ho hex hd hf (by rw [hz2]; omega) ⟨.int ((G2.met (fun i => xs.getD i Str.empty) xs.length).length : Nat), H1, I2.tok _, ⟨_, by rw [hz2]⟩, q1⟩
end
end L2

set_option Elab.async false
set_option linter.all false
set_option maxRecDepth 100000
set_option maxHeartbeats 4000000
/-! data (texts, tuples, anything else) and how they lie in the heap; what the checks say of them -/
namespace SF
open PySem PySem.Spec PyProof.Rows L2
inductive D where
  | s (x : Str)
  | t (ds : List D)
  | o
/-- equal to itself -/
def EqS (v : V) : Prop := flatB v = true ∨ ∃ a, v = .ref a
/-- a value that is neither a text nor a tuple -/
def Oth (K : PySem.W.Frag) (H : Hp) (v : V) : Prop := ∃ T : String, TyX K H v (.type T) ∧ PySem.W.kitOne K (.type T) (.type "str") = some false ∧ PySem.W.kitOne K (.type T) (.type "tuple") = some false ∧ EqS v
mutual
def Rep (K : PySem.W.Frag) (H : Hp) : D → V → Prop
  | .s x, v => v = .str x ∧ x.length ≤ 1000
  | .t ds, v => ∃ (p : Addr) (vs : List V), v = .ref p ∧ SqT K H p vs ∧ Reps K H ds vs
  | .o, v => Oth K H v
def Reps (K : PySem.W.Frag) (H : Hp) : List D → List V → Prop
  | [], vs => vs = []
  | d :: ds, vs => ∃ v r, vs = v :: r ∧ Rep K H d v ∧ Reps K H ds r
end
section
variable {K : PySem.W.Frag} {H H' : Hp}
theorem same_t {a : Addr} {xs : List V} (e : Same H H') (h : SqT K H a xs) : SqT K H' a xs := by
  rcases h with (h | ⟨o, h⟩) | h
  · exact .inl (.inl (e _ _ h))
  · exact .inl (.inr ⟨o, e _ _ h⟩)
  · exact .inr h
theorem same_ty {v : V} {t : Value} (e : Same H H') (h : TyX K H v t) : TyX K H' v t := by
  cases h with
  | base b =>
    cases b with
    | non => exact .base .non
    | bl y => exact .base (.bl y)
    | int i => exact .base (.int i)
    | str y => exact .base (.str y)
    | flt y => exact .base (.flt y)
    | lst q => exact .base (.lst (e _ _ q))
    | frz q => exact .base (.frz (e _ _ q))
    | tup q => exact .base (.tup (e _ _ q))
    | dK q => exact .base (.dK (e _ _ q))
    | dT q => exact .base (.dT (e _ _ q))
    | ins q a b c d f => exact .base (.ins (e _ _ q) a b c d f)
  | byt y => exact .byt y
  | set q => exact .set (e _ _ q)
  | kList q c => exact .kList q c
  | kTuple q c => exact .kTuple q c
  | kDict q c => exact .kDict q c
  | fTuple q => exact .fTuple (e _ _ q)
  | fDict q => exact .fDict (e _ _ q)
mutual
theorem Rep.same (e : Same H H') : ∀ {d : D} {v : V}, Rep K H d v → Rep K H' d v
  | .s x, v, h => by
    unfold Rep at h ⊢
    exact h
  | .t ds, v, h => by
    unfold Rep at h ⊢
    obtain ⟨p, vs, e1, e2, e3⟩ := h
    exact ⟨p, vs, e1, same_t e e2, Reps.same e e3⟩
  | .o, v, h => by
    unfold Rep at h ⊢
    obtain ⟨T, t, z⟩ := h
    exact ⟨T, same_ty e t, z⟩
theorem Reps.same (e : Same H H') : ∀ {ds : List D} {vs : List V}, Reps K H ds vs → Reps K H' ds vs
  | [], vs, h => by
    unfold Reps at h ⊢
    exact h
  | d :: ds, vs, h => by
    unfold Reps at h ⊢
    obtain ⟨v, r, e1, e2, e3⟩ := h
    exact ⟨v, r, e1, Rep.same e e2, Reps.same e e3⟩
end
theorem rep_s {x : Str} {v : V} : Rep K H (.s x) v ↔ v = .str x ∧ x.length ≤ 1000 := by unfold Rep; exact Iff.rfl
theorem rep_t {ds : List D} {v : V} : Rep K H (.t ds) v ↔ ∃ (p : Addr) (vs : List V), v = .ref p ∧ SqT K H p vs ∧ Reps K H ds vs := by
  rw [Rep]
theorem rep_o {v : V} : Rep K H .o v ↔ Oth K H v := by unfold Rep; exact Iff.rfl
theorem rep_self {d : D} {v : V} (h : Rep K H d v) : EqS v := by
  cases d with
  | s x =>
    rw [(rep_s.mp h).1]
    exact .inl rfl
  | t ds =>
    obtain ⟨p, vs, e, _⟩ := rep_t.mp h
    exact .inr ⟨p, e⟩
  | o =>
    obtain ⟨T, _, _, _, e⟩ := rep_o.mp h
    exact e
theorem reps_nil {vs : List V} : Reps K H [] vs ↔ vs = [] := by unfold Reps; exact Iff.rfl
theorem reps_cons {d : D} {ds : List D} {vs : List V} : Reps K H (d :: ds) vs ↔ ∃ v r, vs = v :: r ∧ Rep K H d v ∧ Reps K H ds r := by rw [Reps]
theorem reps_len : ∀ {ds : List D} {vs : List V}, Reps K H ds vs → ds.length = vs.length
  | [], vs, h => by rw [reps_nil.mp h]; rfl
  | d :: ds, vs, h => by
    obtain ⟨v, r, rfl, _, h2⟩ := reps_cons.mp h
    rw [List.length_cons, List.length_cons, reps_len h2]
theorem reps_at : ∀ {ds : List D} {vs : List V} {i : Nat} {v : V}, Reps K H ds vs → vs[i]? = some v → ∃ d, ds[i]? = some d ∧ Rep K H d v
  | [], vs, i, v, h, e => by rw [reps_nil.mp h] at e; simp at e
  | d :: ds, vs, 0, v, h, e => by
    obtain ⟨w, r, rfl, h1, h2⟩ := reps_cons.mp h
    have : w = v := by simpa using e
    subst this
    exact ⟨d, rfl, h1⟩
  | d :: ds, vs, i + 1, v, h, e => by
    obtain ⟨w, r, rfl, h1, h2⟩ := reps_cons.mp h
    obtain ⟨d', a, b⟩ := reps_at (i := i) (v := v) h2 (by simpa using e)
    exact ⟨d', by simpa using a, b⟩
theorem ty_t {p : Addr} {vs : List V} (h : SqT K H p vs) : TyX K H (.ref p) (.type "tuple") := by
  rcases h with (h | ⟨o, h⟩) | ⟨o, its, n, h, c, _⟩
  · exact .base (.tup h)
  · exact .fTuple h
  · exact .kTuple h c
theorem ty_s {x : Str} : TyX K H (.str x) (.type "str") := .base (.str x)
/-- isinstance of a value of a built-in type -/
theorem isi_go {v : V} {T S : String} {b : Bool} {Q : VK} (h : TyX K H v (.type T)) (k : PySem.W.kitOne K (.type T) (.type S) = some b) (q : Q (.bl b) H) : rIsi K [v, .ty S] H Q := ⟨v, .ty S, _, _, b, rfl, .ty S, h, k, q⟩
theorem k_ss : PySem.W.kitOne K (.type "str") (.type "str") = some true := kit_ty (by decide +kernel)
theorem k_st : PySem.W.kitOne K (.type "str") (.type "tuple") = some false := kit_ty (by decide +kernel)
theorem k_sd : PySem.W.kitOne K (.type "str") (.type "dict") = some false := kit_ty (by decide +kernel)
theorem k_sl : PySem.W.kitOne K (.type "str") (.type "list") = some false := kit_ty (by decide +kernel)
theorem k_ts : PySem.W.kitOne K (.type "tuple") (.type "str") = some false := kit_ty (by decide +kernel)
theorem k_tt : PySem.W.kitOne K (.type "tuple") (.type "tuple") = some true := kit_ty (by decide +kernel)
theorem k_dd : PySem.W.kitOne K (.type "dict") (.type "dict") = some true := kit_ty (by decide +kernel)
end
/-! ### what is a name -/
def nameS (x : Str) : Bool := decide (x.length ≤ 8) && (Txt.isascii x && (Txt.isalpha x && Txt.islower x))
def nameD : D → Bool
  | .s x => nameS x
  | _ => false
def isT : D → Bool
  | .t _ => true
  | _ => false
def isS : D → Bool
  | .s _ => true
  | _ => false
section
variable {K : PySem.W.Frag} {H : Hp} {Q : VK}
theorem isi_str {d : D} {v : V} (r : Rep K H d v) (q : Q (.bl (isS d)) H) : rIsi K [v, .ty "str"] H Q := by
  cases d with
  | s x =>
    obtain ⟨rfl, _⟩ := rep_s.mp r
    exact isi_go ty_s k_ss q
  | t ds =>
    obtain ⟨p, vs, rfl, h, _⟩ := rep_t.mp r
    exact isi_go (ty_t h) k_ts q
  | o =>
    obtain ⟨T, t, k1, k2⟩ := rep_o.mp r
    exact isi_go t k1 q
theorem isi_tup {d : D} {v : V} (r : Rep K H d v) (q : Q (.bl (isT d)) H) : rIsi K [v, .ty "tuple"] H Q := by
  cases d with
  | s x =>
    obtain ⟨rfl, _⟩ := rep_s.mp r
    exact isi_go ty_s k_st q
  | t ds =>
    obtain ⟨p, vs, rfl, h, _⟩ := rep_t.mp r
    exact isi_go (ty_t h) k_tt q
  | o =>
    obtain ⟨T, t, k1, k2⟩ := rep_o.mp r
    exact isi_go t k2.1 q
end
/-- the texts among the data -/
def strOf : D → Str
  | .s x => x
  | _ => Str.empty
def namesD (lo hi : Nat) : D → Bool
  | .t ds => decide (lo ≤ ds.length) && (decide (ds.length ≤ hi) && (ds.all nameD && decide ((ds.map strOf).Nodup)))
  | _ => false
theorem names_vs {K : PySem.W.Frag} {H : Hp} : ∀ {ds : List D} {vs : List V}, Reps K H ds vs → ds.all nameD = true → vs = (ds.map strOf).map V.str
  | [], vs, h, _ => reps_nil.mp h
  | d :: ds, vs, h, e => by
    obtain ⟨v, r, rfl, h1, h2⟩ := reps_cons.mp h
    rw [List.all_cons, Bool.and_eq_true] at e
    cases d with
    | s x =>
      obtain ⟨rfl, _⟩ := rep_s.mp h1
      rw [names_vs h2 e.2]
      rfl
    | t _ => cases e.1
    | o => cases e.1
theorem met_nodup (xs : List Str) : decide ((G2.met (fun i => xs.getD i Str.empty) xs.length).length = xs.length) = decide xs.Nodup := by
  refine decide_eq_decide.mpr ?_
  rw [G2.met_full, List.Nodup, List.pairwise_iff_getElem]
  have g : ∀ (i : Nat) (hi : i < xs.length), xs.getD i Str.empty = xs[i] := fun i hi => by rw [List.getD_eq_getElem?_getD, List.getElem?_eq_getElem hi]; rfl
  constructor
  · intro h i j hi hj hij e
    have := h i j hi hj (by rw [g i hi, g j hj, e])
    omega
  · intro h i j hi hj e
    rw [g i hi, g j hj] at e
    rcases Nat.lt_trichotomy i j with c | c | c
    · exact absurd e (h i j hi hj c)
    · exact c
    · exact absurd e.symm (h j i hj hi c)
end SF

set_option Elab.async false
set_option linter.all false
set_option maxRecDepth 100000
set_option maxHeartbeats 4000000
/-! steps of a reading, one at a time -/
namespace RD
open PySem PySem.Spec PyProof.Rows L2 G0
section
variable {σ : L2.St} {H : Hp} {Q : VK} {v : V} {ta tb te : TE} {t : TA} {c c1 c2 : TT} {t1 t2 : TS} {D : Ends} {nx : L2.St → Hp → Prop} {rt : VK} {bk ct : L2.St → Hp → Prop} {K : PySem.W.Frag} {QB : Bool → Hp → Prop} {QA : List V → Hp → Prop} {A B : Prop}
theorem seq (h : t1 ⟨t2 D, D.rt, D.bk, D.ct⟩ σ H) : tSeq t1 t2 D σ H := h
theorem next (h : nx σ H) : tNext ⟨nx, rt, bk, ct⟩ σ H := h
theorem ifS (h : c σ H fun b H1 => if b = true then t1 D σ H1 else t2 D σ H1) : tIfS c t1 t2 D σ H := h
theorem ret (h : te σ H rt) : tRet te ⟨nx, rt, bk, ct⟩ σ H := h
theorem retN (h : rt .non H) : tRetN ⟨nx, rt, bk, ct⟩ σ H := h
theorem drop (h : te σ H fun _ H1 => nx σ H1) : tDrop te ⟨nx, rt, bk, ct⟩ σ H := h
theorem asg {g : TG} (h : te σ H fun x H1 => g x σ H1 nx) : tAsg te g ⟨nx, rt, bk, ct⟩ σ H := h
theorem gname {i : Nat} {QS : L2.St → Hp → Prop} (h : QS (σ.set i (some v)) H) : gName i v σ H QS := h
theorem var {i : Nat} (h : σ[i]? = some (some v)) (q : Q v H) : tVar i σ H Q := ⟨v, h, q⟩
theorem c_ (q : Q v H) : tC v σ H Q := q
theorem op {r : R2} (h : ta σ H fun x H1 => tb σ H1 fun y H2 => r x y H2 Q) : tOp r ta tb σ H Q := h
theorem un {r : V → Hp → VK → Prop} (h : ta σ H fun x H1 => r x H1 Q) : tUn r ta σ H Q := h
theorem cb {r : List V → Hp → VK → Prop} (h : t σ H fun vs H1 => r vs H1 Q) : tCB r t σ H Q := h
theorem cons (h : ta σ H fun x H1 => t σ H1 fun xs H2 => QA (x :: xs) H2) : tCons ta t σ H QA := h
theorem nil (h : QA [] H) : tNil σ H QA := h
theorem tup (h : t σ H fun xs H1 => xs.length ≤ sizeLine ∧ ∀ p, H1 p = none → Q (.ref p) (upd H1 p (.tup xs))) : tTup t σ H Q := h
theorem lst (h : t σ H fun xs H1 => xs.length ≤ sizeLine ∧ ∀ p, H1 p = none → Q (.ref p) (upd H1 p (.lst xs))) : tLst t σ H Q := h
theorem B_ (h : ta σ H fun x H1 => ∃ c, x = .bl c ∧ QB c H1) : tB ta σ H QB := h
theorem test (h : ta σ H fun x H1 => ∃ c, x = .bl c ∧ QB c H1) : tTest ta σ H QB := h
theorem exB {b : Bool} {F : Bool → Prop} (q : F b) : ∃ c, V.bl b = V.bl c ∧ F c := ⟨b, rfl, q⟩
theorem exI {i : Int} {F : Int → Prop} (q : F i) : ∃ j, V.int i = V.int j ∧ F j := ⟨i, rfl, q⟩
theorem and_ (h : c1 σ H fun b H1 => if b = true then c2 σ H1 QB else QB false H1) : tAnd c1 c2 σ H QB := h
theorem or_ (h : c1 σ H fun b H1 => if b = true then QB true H1 else c2 σ H1 QB) : tOr c1 c2 σ H QB := h
theorem not_ (h : c1 σ H fun b H1 => QB (!b) H1) : tNot c1 σ H QB := h
theorem andV (h : ta σ H fun x H1 => ∃ c, x = .bl c ∧ if c = true then tb σ H1 Q else Q (.bl false) H1) : tAndV ta tb σ H Q := h
theorem orV (h : ta σ H fun x H1 => ∃ c, x = .bl c ∧ if c = true then Q (.bl true) H1 else tb σ H1 Q) : tOrV ta tb σ H Q := h
theorem notV (h : ta σ H fun x H1 => ∃ c, x = .bl c ∧ Q (.bl (!c)) H1) : tNotV ta σ H Q := h
theorem if_ (h : c σ H fun b H1 => if b = true then ta σ H1 Q else tb σ H1 Q) : tIf c ta tb σ H Q := h
theorem ifT (h : A) : if true = true then A else B := by rw [if_pos rfl]; exact h
theorem ifF (h : B) : if false = true then A else B := by rw [if_neg Bool.false_ne_true]; exact h
theorem ifNT (h : B) : if (!true) = true then A else B := ifF h
theorem ifNF (h : A) : if (!false) = true then A else B := ifT h
theorem yes {QT : Bool → Hp → Prop} (h : QT true H) : tYes σ H QT := h
theorem sl {r : V → Option Int → Option Int → Hp → VK → Prop} {tl th : TO} (h : te σ H fun x H1 => tl σ H1 fun l H2 => th σ H2 fun u H3 => r x l u H3 Q) : tSl r te tl th σ H Q := h
theorem noPart {QO : Option Int → Hp → Prop} (h : QO none H) : tNoPart σ H QO := h
theorem part {QO : Option Int → Hp → Prop} (h : te σ H fun x H1 => ∃ i, x = .int i ∧ QO (some i) H1) : tPart te σ H QO := h
theorem i0 {g : Int → Int → V} {i j : Int} (q : Q (g i j) H) : rI0 g (.int i) (.int j) H Q := ⟨i, j, rfl, rfl, q⟩
theorem i1 {C : Int → Int → Prop} {g : Int → Int → V} {i j : Int} (hc : C i j) (q : Q (g i j) H) : rI C g (.int i) (.int j) H Q := ⟨i, j, rfl, rfl, hc, q⟩
theorem eqS {x y : Str} (q : Q (.bl (decide (x = y))) H) : rEq (.str x) (.str y) H Q := ⟨rfl, by
  have e : decide (V.str x = V.str y) = decide (x = y) := decide_eq_decide.mpr ⟨fun z => V.str.inj z, fun z => congrArg V.str z⟩
  rw [e]; exact q⟩
theorem eqI {x y : Int} (q : Q (.bl (decide (x = y))) H) : rEq (.int x) (.int y) H Q := ⟨rfl, by
  have e : decide (V.int x = V.int y) = decide (x = y) := decide_eq_decide.mpr ⟨fun z => V.int.inj z, fun z => congrArg V.int z⟩
  rw [e]; exact q⟩
theorem neI {x y : Int} (q : Q (.bl (!decide (x = y))) H) : rNe (.int x) (.int y) H Q := ⟨rfl, by
  have e : decide (V.int x = V.int y) = decide (x = y) := decide_eq_decide.mpr ⟨fun z => V.int.inj z, fun z => congrArg V.int z⟩
  rw [e]; exact q⟩
theorem neS {x y : Str} (q : Q (.bl (!decide (x = y))) H) : rNe (.str x) (.str y) H Q := ⟨rfl, by
  have e : decide (V.str x = V.str y) = decide (x = y) := decide_eq_decide.mpr ⟨fun z => V.str.inj z, fun z => congrArg V.str z⟩
  rw [e]; exact q⟩
theorem isN_n (q : Q (.bl true) H) : rIsN .non .non H Q := ⟨rfl, q⟩
theorem isN_r {a : Addr} (q : Q (.bl false) H) : rIsN (.ref a) .non H Q := ⟨rfl, q⟩
theorem isN_s {x : Str} (q : Q (.bl false) H) : rIsN (.str x) .non H Q := ⟨rfl, q⟩
theorem isN_b {x : Bool} (q : Q (.bl false) H) : rIsN (.bl x) .non H Q := ⟨rfl, q⟩
theorem isN_i {x : Int} (q : Q (.bl false) H) : rIsN (.int x) .non H Q := ⟨rfl, q⟩
theorem notN_n (q : Q (.bl false) H) : rNotN .non .non H Q := ⟨rfl, q⟩
theorem notN_r {a : Addr} (q : Q (.bl true) H) : rNotN (.ref a) .non H Q := ⟨rfl, q⟩
theorem notN_s {x : Str} (q : Q (.bl true) H) : rNotN (.str x) .non H Q := ⟨rfl, q⟩
theorem call {sp : Sp} {E : XK} (h : t σ H fun vs H1 => sp vs H1 Q E) : tCall sp [] E t σ H Q := by
  have e : (fun (vs : List V) H1 => sp (vs ++ []) H1 Q E) = fun vs H1 => sp vs H1 Q E := by
    funext vs H1
    rw [List.append_nil]
  show t σ H (fun vs H1 => sp (vs ++ []) H1 Q E)
  rw [e]
  exact h
theorem make {C : Addr} {sp : Sp} {E : XK} (h : t σ H fun vs H1 => ∀ x dx, H1 x = none → H1 dx = none → dx ≠ x → sp (.ref x :: vs) (upd (upd H1 dx (.own x)) x (.ins C dx [])) (fun v H2 => v = .non ∧ Q (.ref x) H2) E) : tMake C sp [] E t σ H Q := by
  have e : (fun (vs : List V) H1 => ∀ x dx, H1 x = none → H1 dx = none → dx ≠ x → sp (.ref x :: (vs ++ [])) (upd (upd H1 dx (.own x)) x (.ins C dx [])) (fun v H2 => v = .non ∧ Q (.ref x) H2) E) = fun vs H1 => ∀ x dx, H1 x = none → H1 dx = none → dx ≠ x → sp (.ref x :: vs) (upd (upd H1 dx (.own x)) x (.ins C dx [])) (fun v H2 => v = .non ∧ Q (.ref x) H2) E := by
    funext vs H1
    rw [List.append_nil]
  show t σ H (fun vs H1 => ∀ x dx, H1 x = none → H1 dx = none → dx ≠ x → sp (.ref x :: (vs ++ [])) (upd (upd H1 dx (.own x)) x (.ins C dx [])) (fun v H2 => v = .non ∧ Q (.ref x) H2) E)
  rw [e]
  exact h
theorem unp {n : Nat} {g : TGs} {a : Addr} {xs : List V} {QS : L2.St → Hp → Prop} (h : SqT K H a xs) (hl : xs.length = n) (q : g xs σ H QS) : gTup K n g (.ref a) σ H QS := ⟨a, xs, rfl, h, hl, q⟩
theorem gcons {g : TG} {u : TGs} {r : List V} {QS : L2.St → Hp → Prop} (q : g v σ H fun σ' H' => u r σ' H' QS) : gCons g u (v :: r) σ H QS := ⟨v, r, rfl, q⟩
theorem gnil {QS : L2.St → Hp → Prop} (q : QS σ H) : gNil [] σ H QS := ⟨rfl, q⟩
theorem bm {T : String} {r : V → List V → Hp → VK → Prop} (h : ta σ H fun x H1 => tyV K T x H1 ∧ t σ H1 fun xs H2 => r x xs H2 Q) : tBM K T r ta t σ H Q := h
theorem bm0 {T : String} {r : V → List V → Hp → VK → Prop} (h : ta σ H fun x H1 => tyV K T x H1 ∧ r x [] H1 Q) : tBM0 K T r ta σ H Q := h
theorem lenL {a : Addr} {xs : List V} (h : SqL K H a xs) (q : Q (.int (xs.length : Nat)) H) : ∃ p ys, [V.ref a] = [V.ref p] ∧ (SqL K H p ys ∨ SqT K H p ys) ∧ Q (.int (ys.length : Nat)) H := ⟨a, xs, rfl, .inl h, q⟩
theorem lenT {a : Addr} {xs : List V} (h : SqT K H a xs) (q : Q (.int (xs.length : Nat)) H) : ∃ p ys, [V.ref a] = [V.ref p] ∧ (SqL K H p ys ∨ SqT K H p ys) ∧ Q (.int (ys.length : Nat)) H := ⟨a, xs, rfl, .inr h, q⟩
theorem ixT {a : Addr} {xs : List V} {i : Int} (h : SqT K H a xs) (e : atI xs i = some v) (q : Q v H) : rIxT K (.ref a) (.int i) H Q := ⟨a, xs, i, v, rfl, rfl, h, e, q⟩
theorem ixL {a : Addr} {xs : List V} {i : Int} (h : SqL K H a xs) (e : atI xs i = some v) (q : Q v H) : rIxL K (.ref a) (.int i) H Q := ⟨a, xs, i, v, rfl, rfl, h, e, q⟩
theorem dget {td ty : TE} (h : td σ H fun x H1 => ty σ H1 fun y H2 => ∃ a v, x = .ref a ∧ DGet H2 a y (some v) ∧ Q v H2) : tDGet td ty σ H Q := h
theorem din {td ty : TE} (h : ty σ H fun y H1 => td σ H1 fun x H2 => ∃ a o, x = .ref a ∧ DGet H2 a y o ∧ Q (.bl o.isSome) H2) : tDIn ty td σ H Q := h
theorem fld {f : Str} {a C dx : Addr} {fs : List (Str × V)} (h : H a = some (.ins C dx fs)) (hc : Cls K C) (hn : NoAttr K C f) (l : fs.lookup f = some v) (q : Q v H) : ∃ (a' C' dx' : Addr) (fs' : List (Str × V)) (v' : V), V.ref a = .ref a' ∧ H a' = some (.ins C' dx' fs') ∧ Cls K C' ∧ NoAttr K C' f ∧ fs'.lookup f = some v' ∧ Q v' H := ⟨a, C, dx, fs, v, rfl, h, hc, hn, l, q⟩
theorem tfld {f : Str} (h : te σ H fun x H1 => ∃ (a : Addr) (C : Addr) (dx : Addr) (fs : List (Str × V)) (v : V), x = .ref a ∧ H1 a = some (.ins C dx fs) ∧ Cls K C ∧ NoAttr K C f ∧ fs.lookup f = some v ∧ Q v H1) : tFld K te f σ H Q := h
theorem then_ {k : V → Hp → VK → Prop} (h : ta σ H fun x H1 => k x H1 Q) : tThen ta k σ H Q := h
theorem aug {i : Nat} {x : V} {ti : TIp} (e : σ[i]? = some (some x)) (h : te σ H fun y H1 => ti x y H1 fun z H2 => nx (σ.set i (some z)) H2) : tAug i te ti ⟨nx, rt, bk, ct⟩ σ H := ⟨x, e, h⟩
theorem chain {r r' : R2} {tc : TE} (h : ta σ H fun x H1 => tb σ H1 fun y H2 => r x y H2 fun z H3 => ∃ k, z = .bl k ∧ if k = true then tc σ H3 fun u H4 => r' y u H4 Q else Q (.bl false) H3) : tChain r r' ta tb tc σ H Q := h
theorem itup {R : It → Hp → Prop} (h : te σ H fun x H1 => ∃ a, x = .ref a ∧ (∃ xs, SqT K H1 a xs) ∧ R (Itt K a) H1) : iTup K te σ H R := h
theorem ilist {R : It → Hp → Prop} (h : te σ H fun x H1 => ∃ a, x = .ref a ∧ (∃ xs, SqL K H1 a xs) ∧ R (Itl K a) H1) : iList K te σ H R := h
theorem lset (h : te σ H fun x H1 => ∃ (l : Addr) (xs : List Str), x = .ref l ∧ SqT K H1 l (xs.map V.str) ∧ xs.length ≤ 1000 ∧ Q (.int (G2.met (fun i => xs.getD i Str.empty) xs.length).length) H1) : tLenSetT K te σ H Q := h
theorem ikeys {td : TE} {R : It → Hp → Prop} (h : td σ H fun x H1 => ∃ d o, x = .ref d ∧ ((∃ kvs, H1 d = some (.frz o (.dK kvs)) ∧ R (Itk d o kvs) H1) ∨ ∃ kvs, H1 d = some (.frz o (.dT kvs)) ∧ R (Itkt d o kvs) H1)) : iKeys td σ H R := h
theorem ivals {td : TE} {R : It → Hp → Prop} (h : td σ H fun x H1 => ∃ d o kvs, x = .ref d ∧ H1 d = some (.frz o (.dK kvs)) ∧ R (Itd d o kvs) H1) : iVals td σ H R := h
theorem iitems {td : TE} {R : It → Hp → Prop} (h : td σ H fun x H1 => ∃ d o kvs, x = .ref d ∧ H1 d = some (.frz o (.dK kvs)) ∧ R (Iti d o kvs) H1) : iItems td σ H R := h
end
end RD
namespace L2
open PySem
/-- what a new object leaves -/
theorem Same.nw {H0 H : Hp} {p : Addr} {o : HO} (e : Same H0 H) (h : H p = none) : Same H0 (upd H p o) := fun b u q => by
  rw [upd_ne (ne_of_none (e b u q) h)]
  exact e b u q
/-- a change of what H0 does not know -/
theorem Same.mt {H0 H : Hp} {p : Addr} {o : HO} (e : Same H0 H) (h : H0 p = none) : Same H0 (upd H p o) := fun b u q => by
  rw [upd_ne (ne_of_none q h)]
  exact e b u q
end L2
namespace SF
open PySem PySem.Spec PyProof.Rows L2 G0
section
variable {K : PySem.W.Frag} {a : Addr} {xs ys : List V} {g : TG} {te : TE} {vs : List Nat} {σ : L2.St} {H1 : Hp} {D : Addr} {Qd : Hp → Prop}
/-- len of a list or a tuple; of a text; of a dict with text keys -/
def rLenQ (K : PySem.W.Frag) : List V → Hp → VK → Prop := fun xs H Q => ∃ p ys, xs = [.ref p] ∧ (SqL K H p ys ∨ SqT K H p ys) ∧ Q (.int (ys.length : Nat)) H
theorem call_lenQ {X : Cx} : CallR X (.builtin "len") (rLenQ X.K) := call_len_seq
theorem lenQt {p : Addr} {ys : List V} {H : Hp} {Q : VK} (h : SqT K H p ys) (q : Q (.int (ys.length : Nat)) H) : rLenQ K [.ref p] H Q := ⟨p, ys, rfl, .inr h, q⟩
theorem lenQl {p : Addr} {ys : List V} {H : Hp} {Q : VK} (h : SqL K H p ys) (q : Q (.int (ys.length : Nat)) H) : rLenQ K [.ref p] H Q := ⟨p, ys, rfl, .inl h, q⟩
def rLenT : List V → Hp → VK → Prop := fun xs H Q => ∃ z : Str, xs = [.str z] ∧ z.length ≤ sizeLine ∧ Q (.int (z.length : Nat)) H
theorem call_lenT {X : Cx} : CallR X (.builtin "len") rLenT := call_len_str
theorem lenTt {z : Str} {H : Hp} {Q : VK} (h : z.length ≤ 1000000) (q : Q (.int (z.length : Nat)) H) : rLenT [.str z] H Q := ⟨z, rfl, Nat.le_trans h (by decide), q⟩
def rLenDk : List V → Hp → VK → Prop := fun xs H Q => ∃ a kvs, xs = [.ref a] ∧ H a = some (.dK kvs) ∧ Q (.int (kvs.length : Nat)) H
theorem call_lenDk {X : Cx} : CallR X (.builtin "len") rLenDk := call_lenD
/-- what a turn of a comprehension says -/
def Turn (g : TG) (te : TE) (vs : List Nat) (σ : L2.St) (H1 : Hp) (x y : V) : Prop :=
  ∀ H, Same H1 H → ∀ QQ : VK, (∀ H', Same H H' → QQ y H') → g x (wipe σ vs) H fun σ2 H2 => wipe σ2 vs = wipe σ vs ∧ te σ2 H2 QQ
theorem lc_mapT (hS : SqT K H1 a xs) (hD : H1 D = none) (hl : ys.length = xs.length) (hz : xs.length ≤ 1000)
    (hs : ∀ (k : Nat) (x y : V), xs[k]? = some x → ys[k]? = some y → Turn g te vs σ H1 x y) (hd : ∀ H, Same H1 H → H D = some (.lst ys) → Qd H) :
    ∃ W : Nat → Nat → Hp → Prop, (∃ m, W 0 m (upd H1 D (.lst []))) ∧ ∀ i m H, W i m H →
      ((Itt K a).stop i H ∧ Qd H) ∨ ((Itt K a).go i H ∧ ∃ Nx : Hp → Prop, (∀ H', Nx H' → ∃ m', m' < m ∧ W (i + 1) m' H') ∧ ∀ x H', (Itt K a).yld i H x H' → g x (wipe σ vs) H' fun σ2 H2 => wipe σ2 vs = wipe σ vs ∧ tYes σ2 H2 fun b H3 =>
        if b = true then te σ2 H3 fun y H4 => ∃ acc, H4 D = some (.lst acc) ∧ acc.length < sizeLine ∧ Nx (upd H4 D (.lst (acc ++ [y]))) else Nx H3) := by
  refine lc_tup (xs := xs) (fun k H => Same H1 H ∧ H D = some (.lst (ys.take k))) ⟨(Same.refl _).mt hD, upd_same⟩ (fun _ H _ h => same_t h.1 hS) (fun k x H hx h => ?_) fun H h => hd H h.1 (by rw [h.2, List.take_of_length_le (by omega)])
  have hk : k < ys.length := by
    have := (List.getElem?_eq_some_iff.mp hx).1
    omega
  have hy : ys[k]? = some ys[k] := List.getElem?_eq_getElem hk
  refine hs k x ys[k] hx hy H h.1 _ fun H' sm => ?_
  have e := sm _ _ h.2
  refine ⟨_, e, ?_, (h.1.trans sm).mt hD, ?_⟩
  · rw [List.length_take, sizeLine_eq]
    omega
  · rw [upd_same, List.take_succ, hy]
    rfl
theorem lc_mapL (hS : SqL K H1 a xs) (hD : H1 D = none) (hl : ys.length = xs.length) (hz : xs.length ≤ 1000)
    (hs : ∀ (k : Nat) (x y : V), xs[k]? = some x → ys[k]? = some y → Turn g te vs σ H1 x y) (hd : ∀ H, Same H1 H → H D = some (.lst ys) → Qd H) :
    ∃ W : Nat → Nat → Hp → Prop, (∃ m, W 0 m (upd H1 D (.lst []))) ∧ ∀ i m H, W i m H →
      ((Itl K a).stop i H ∧ Qd H) ∨ ((Itl K a).go i H ∧ ∃ Nx : Hp → Prop, (∀ H', Nx H' → ∃ m', m' < m ∧ W (i + 1) m' H') ∧ ∀ x H', (Itl K a).yld i H x H' → g x (wipe σ vs) H' fun σ2 H2 => wipe σ2 vs = wipe σ vs ∧ tYes σ2 H2 fun b H3 =>
        if b = true then te σ2 H3 fun y H4 => ∃ acc, H4 D = some (.lst acc) ∧ acc.length < sizeLine ∧ Nx (upd H4 D (.lst (acc ++ [y]))) else Nx H3) := by
  refine lc_list (xs := xs) (fun k H => Same H1 H ∧ H D = some (.lst (ys.take k))) ⟨(Same.refl _).mt hD, upd_same⟩ (fun _ H _ h => h.1.seq hS) (fun k x H hx h => ?_) fun H h => hd H h.1 (by rw [h.2, List.take_of_length_le (by omega)])
  have hk : k < ys.length := by
    have := (List.getElem?_eq_some_iff.mp hx).1
    omega
  have hy : ys[k]? = some ys[k] := List.getElem?_eq_getElem hk
  refine hs k x ys[k] hx hy H h.1 _ fun H' sm => ?_
  have e := sm _ _ h.2
  refine ⟨_, e, ?_, (h.1.trans sm).mt hD, ?_⟩
  · rw [List.length_take, sizeLine_eq]
    omega
  · rw [upd_same, List.take_succ, hy]
    rfl
end
section
variable {K : PySem.W.Frag} {g : TG} {te : TE} {vs : List Nat} {σ : L2.St} {H1 : Hp} {D : Addr} {Qd : Hp → Prop} {J : It} {n : Nat} {G : Hp → Prop} {Y : Nat → Hp → V → Hp → Prop} {ys : List V}
/-- a turn of a comprehension: at i it gives y -/
def TurnW (Y : Nat → Hp → V → Hp → Prop) (g : TG) (te : TE) (vs : List Nat) (σ : L2.St) (H1 : Hp) (i : Nat) (y : V) : Prop :=
  ∀ x H H', Same H1 H → Y i H x H' → ∀ QQ : VK, (∀ H'', Same H H'' → QQ y H'') → g x (wipe σ vs) H' fun σ2 H2 => wipe σ2 vs = wipe σ vs ∧ te σ2 H2 QQ
theorem lc_map (w : Walk J n G Y) (hl : ys.length = n) (hz : n ≤ 1000) (hD : H1 D = none) (hG : ∀ H, Same H1 H → G H)
    (hs : ∀ (i : Nat) (y : V), ys[i]? = some y → TurnW Y g te vs σ H1 i y) (hd : ∀ H, Same H1 H → H D = some (.lst ys) → Qd H) :
    ∃ W : Nat → Nat → Hp → Prop, (∃ m, W 0 m (upd H1 D (.lst []))) ∧ ∀ i m H, W i m H →
      (J.stop i H ∧ Qd H) ∨ (J.go i H ∧ ∃ Nx : Hp → Prop, (∀ H', Nx H' → ∃ m', m' < m ∧ W (i + 1) m' H') ∧ ∀ x H', J.yld i H x H' → g x (wipe σ vs) H' fun σ2 H2 => wipe σ2 vs = wipe σ vs ∧ tYes σ2 H2 fun b H3 =>
        if b = true then te σ2 H3 fun y H4 => ∃ acc, H4 D = some (.lst acc) ∧ acc.length < sizeLine ∧ Nx (upd H4 D (.lst (acc ++ [y]))) else Nx H3) := by
  refine lc_it w (fun k H => Same H1 H ∧ H D = some (.lst (ys.take k))) ⟨(Same.refl _).mt hD, upd_same⟩ (fun _ H _ h => hG H h.1) (fun k x H H' hk h hy => ?_) fun H h => hd H h.1 (by rw [h.2, List.take_of_length_le (by omega)])
  have hk2 : k < ys.length := by omega
  have hy2 : ys[k]? = some ys[k] := List.getElem?_eq_getElem hk2
  refine hs k ys[k] hy2 x H H' h.1 hy _ fun H'' sm => ?_
  have e := sm _ _ h.2
  refine ⟨_, e, ?_, (h.1.trans sm).mt hD, ?_⟩
  · rw [List.length_take, sizeLine_eq]
    omega
  · rw [upd_same, List.take_succ, hy2]
    rfl
theorem walk_zipT {a b : Addr} {xs zs : List V} {n : Nat} (hn : n = min xs.length zs.length) : Walk (RZ.ItzT K a b) n (fun H => SqT K H a xs ∧ SqT K H b zs) (YPair (fun i => xs[i]?) (fun i => zs[i]?)) := by
  subst hn
  refine ⟨fun i _ hi q => ?_, fun _ q => ⟨xs, zs, q.1, q.2, by omega⟩, fun i H v H' _ q y => ?_⟩
  · have h1 : i < xs.length := by omega
    have h2 : i < zs.length := by omega
    exact ⟨xs, zs, xs[i], zs[i], q.1, q.2, by simp [h1], by simp [h2]⟩
  · obtain ⟨T, x, z, h1, h2, h3, h4, h5⟩ := y
    exact ⟨T, x, z, h1, h2, h3, h4 xs q.1, h5 zs q.2⟩
end
/-- a dict that was locked, and is let go -/
theorem _root_.L2.Same.unlock {H H2 : Hp} {d : Addr} {u : HO} {od : Obj} (e : Same (upd H d (.frz od u)) H2) (h : H d = some u) : Same H (upd H2 d u) := fun b o q => by
  by_cases hb : b = d
  · subst hb
    rw [upd_same, ← h, q]
  · rw [upd_ne hb]
    exact e b o (by rw [upd_ne hb]; exact q)
theorem lockE {t : TE} {σ : L2.St} {H : Hp} {Q : VK} {d : Addr} {u : HO} (h : H d = some u) (mu : Mut (some u)) (q : ∀ od, t σ (upd H d (.frz od u)) fun v H' => H' d = some (.frz od u) ∧ Q v (upd H' d u)) : tLockE t σ H Q := ⟨d, u, h, mu, q⟩
theorem lockS {t : TS} {D : Ends} {σ : L2.St} {H : Hp} {d : Addr} {u : HO} (h : H d = some u) (mu : Mut (some u)) (q : ∀ od, t ⟨fun σ' H' => H' d = some (.frz od u) ∧ D.nx σ' (upd H' d u), fun v H' => H' d = some (.frz od u) ∧ D.rt v (upd H' d u), fun σ' H' => H' d = some (.frz od u) ∧ D.bk σ' (upd H' d u), fun σ' H' => H' d = some (.frz od u) ∧ D.ct σ' (upd H' d u)⟩ σ (upd H d (.frz od u))) : tLock t D σ H := ⟨d, u, h, mu, q⟩
end SF

set_option Elab.async false
set_option linter.all false
set_option maxRecDepth 100000
set_option maxHeartbeats 4000000
/-! rules of our own: a tuple times 0, 1 or more; xs[i] += e -/
namespace G4
open PySem PySem.Spec PyProof.Rows L2
theorem tuple_mul1 (l : Addr) (items : Array Value) (n : Nat) (dd : Option Addr) (sl : Array (Option Value)) (u : Tok) :
    Meets (Builtin.«tuple.__mul__» ⟨[.ref l, .int 1 u], []⟩) (fun _ R s => s.heap.get? l = some { cls := .type "tuple", dict := dd, data := .seq items n, slots := sl } ∧ R (.ok (.ret (Value.ref l))) s) :=
  .of_wp fun prog w A R s h => by
    obtain ⟨hp, g, d, tk, os⟩ := s
    obtain ⟨hl, h⟩ := h
    have f1 := AutoSeq1.idx_int
    wp_walk using wpAny_loadPart' hl
    repeat (first
      | (refine wpAny_ite_true (decide_eq_true (by simp)) ?_; wp_walk using wpAny_loadPart' hl)
      | (refine wpAny_ite_false (decide_eq_false (by decide)) ?_; wp_walk using wpAny_loadPart' hl))
    exact ⟨_, rfl, h⟩
theorem tuple_mul0 (l : Addr) (items : Array Value) (n : Nat) (dd : Option Addr) (sl : Array (Option Value)) (u : Tok) (hi : items.isEmpty = false) :
    Meets (Builtin.«tuple.__mul__» ⟨[.ref l, .int 0 u], []⟩) (fun _ R s => s.heap.get? l = some { cls := .type "tuple", dict := dd, data := .seq items n, slots := sl } ∧
      R (.ok (.ret (Value.ref s.heap.objs.size))) { s with heap := s.heap.push { cls := Value.type "tuple", data := Data.seq #[] }, toks := s.toks }) :=
  .of_wp fun prog w A R s h => by
    obtain ⟨hp, g, d, tk, os⟩ := s
    obtain ⟨hl, h⟩ := h
    have f1 := AutoSeq1.idx_int
    have c1 : (items.isEmpty || (0 : Int) == 1) = false := by rw [hi]; rfl
    wp_walk using wpAny_loadPart' hl
    repeat (first
      | (refine wpAny_ite_false (decide_eq_false (by rw [c1]; exact Bool.false_ne_true)) ?_; wp_walk using wpAny_loadPart' hl)
      | (refine wpAny_ite_false (decide_eq_false (by decide)) ?_; wp_walk using wpAny_loadPart' hl)
      | (refine wpAny_ite_true (decide_eq_true (by simp)) ?_; wp_walk using wpAny_loadPart' hl)
      | (refine wpAny_ite_false (decide_eq_false (Nat.not_lt.mpr (Nat.zero_le _))) ?_; wp_walk using wpAny_loadPart' hl))
    exact ⟨_, rfl, h⟩
def rRepA (K : PySem.W.Frag) : R2 := fun x y H Q => ∃ l k xs, x = .ref l ∧ y = .int k ∧ SqT K H l xs ∧ xs ≠ [] ∧ xs.length ≤ 1000 ∧ ((k = 0 ∧ ∀ p, H p = none → Q (.ref p) (upd H p (.tup []))) ∨ (k = 1 ∧ Q (.ref l) H) ∨ (2 ≤ k ∧ k ≤ 1000 ∧ ∀ p, H p = none → Q (.ref p) (upd H p (.tup (List.replicate k.toNat xs).flatten))))
section
variable {X : Cx}
theorem op_repA : OpR X (binaryOp .Mult) (rRepA X.K) := by
  intro pins s σ H x y v u Q I rx ry h
  obtain ⟨l, k, xs, rfl, rfl, hT, hne, hz, q⟩ := h
  rcases q with ⟨rfl, q⟩ | ⟨rfl, q⟩ | ⟨h1, h2, q⟩
  · cases rx
    obtain ⟨t, rfl⟩ := ry
    obtain ⟨its, r, ⟨⟨cls, dd, data, sl⟩, ho, hc, n, hd⟩, hs⟩ := I.tuple hT
    simp only at hc hd
    subst hc hd
    have hle : its.length = xs.length := r.length.symm
    have hi : its.toArray.isEmpty = false := by
      cases its with
      | nil => exact absurd (List.eq_nil_of_length_eq_zero hle.symm) hne
      | cons a b => rfl
    refine wpAny_binaryOp_repeat_ref (T := "tuple") (U := "int") (by decide) ⟨_, ho, rfl⟩ (fun s' => typeIs_int s' 0 t) noFill_tuple_mul F.fills_int_mul F.slot_int_rmul repeat_tuple F.slot_int_index.lookup
      (call_meets F.slot_int_rmul (typeIs_int s 0 t) F.entry_int_rmul (F.args_int_rmul_2 _ _) (int_rmul_tuple 0 t l its.toArray n dd sl)
        ⟨ho, rfl, ⟨_, ho, rfl⟩, call_meets F.slot_tuple_mul ⟨_, ho, rfl⟩ F.entry_tuple_mul (F.args_tuple_mul_2 _ _) (tuple_mul0 l its.toArray n dd sl t hi) ⟨ho, ?_⟩⟩)
    refine ⟨.ref s.heap.objs.size, _, I.laid (t' := s.toks) (o := .tup []) (fun b ob q => Heap.get?_push_of_some _ q) (Nat.le_refl _) ?_, rfl, q _ (I.hok.fresh (Nat.le_refl _))⟩
    exact ⟨Nat.zero_le _, [], .nil, IsTup.new _ _⟩
  · cases rx
    obtain ⟨t, rfl⟩ := ry
    obtain ⟨its, r, ⟨⟨cls, dd, data, sl⟩, ho, hc, n, hd⟩, hs⟩ := I.tuple hT
    simp only at hc hd
    subst hc hd
    exact wpAny_binaryOp_repeat_ref (T := "tuple") (U := "int") (by decide) ⟨_, ho, rfl⟩ (fun s' => typeIs_int s' 1 t) noFill_tuple_mul F.fills_int_mul F.slot_int_rmul repeat_tuple F.slot_int_index.lookup
      (call_meets F.slot_int_rmul (typeIs_int s 1 t) F.entry_int_rmul (F.args_int_rmul_2 _ _) (int_rmul_tuple 1 t l its.toArray n dd sl)
        ⟨ho, rfl, ⟨_, ho, rfl⟩, call_meets F.slot_tuple_mul ⟨_, ho, rfl⟩ F.entry_tuple_mul (F.args_tuple_mul_2 _ _) (tuple_mul1 l its.toArray n dd sl t) ⟨ho, ⟨.ref l, H, I, rfl, q⟩⟩⟩)
  · exact op_repT pins s σ H _ _ v u Q I rx ry ⟨l, k, xs, rfl, rfl, hT, hne, h1, h2, hz, q⟩
/-- o[i] of a list, read for o[i] += e -/
theorem get_list : PGet X (fun o i H Q => ∃ (p : Addr) (xs : List V) (j : Nat) (v : V), o = .ref p ∧ i = .int j ∧ H p = some (.lst xs) ∧ j < 2 ^ 62 ∧ xs[j]? = some v ∧ Q v H) := by
  intro pins s σ H o i ov iv Q I ro ri h
  obtain ⟨p, xs, j, v, rfl, rfl, hp, hj, hv, q⟩ := h
  cases ro
  obtain ⟨t, rfl⟩ := ri
  obtain ⟨its, r, pl, hz⟩ := I.list (.inl (.inl hp))
  obtain ⟨u, hu, ru⟩ := r.get hv
  exact wpAny_getItem_list pl.isList (by omega) (by omega) (by simpa using hu) ⟨v, H, I, ru, q⟩
end
end G4

set_option Elab.async false
set_option linter.all false
set_option maxRecDepth 100000
set_option maxHeartbeats 4000000
/-! readings by value: what may come of a reading, told of plain data; the heap stays below -/
namespace BV
open PySem PySem.Spec PyProof.Rows L2 G0
/-- data; src: the state of the draws; xc: a caught exception at a, its dict at d holds f -/
inductive B where
  | non | bl (b : Bool) | int (i : Int) | str (x : Str)
  | tup (ds : List B) | lst (ds : List B) | dct (ks : List Key) (ds : List B)
  | src | raw (v : V)
  | xc (a d : Addr) (f : Str) (b : B)
abbrev AS := Addr → Prop
/-- the state of the draws and its list; which dicts a loop walks -/
structure Sr where
  s : Option (Addr × Addr)
  L : AS
def isS (o : Sr) (b : Addr) : Prop := ∃ cl, o.s = some (b, cl)
/-- a tuple that may be read for ever -/
def TupAt (K : PySem.W.Frag) (Z : AS) (H : Hp) (p : Addr) (vs : List V) : Prop := (H p = some (.tup vs) ∧ ¬ Z p) ∨ ∀ H', SqT K H' p vs
theorem TupAt.sq {K : PySem.W.Frag} {Z : AS} {H : Hp} {p : Addr} {vs : List V} (h : TupAt K Z H p vs) : SqT K H p vs := by
  rcases h with ⟨h, _⟩ | h
  · exact .inl (.inl h)
  · exact h H
mutual
def Rp (K : PySem.W.Frag) (Z : AS) (o : Sr) (H : Hp) : B → V → Prop
  | .non, v => v = .non
  | .bl b, v => v = .bl b
  | .int i, v => v = .int i
  | .str x, v => v = .str x
  | .tup ds, v => ∃ (p : Addr) (vs : List V), v = .ref p ∧ TupAt K Z H p vs ∧ Rps K Z o H ds vs
  | .lst ds, v => ∃ (p : Addr) (vs : List V), v = .ref p ∧ ¬ Z p ∧ H p = some (.lst vs) ∧ Rps K Z o H ds vs
  | .dct ks ds, v => ∃ (p : Addr) (vs : List V), v = .ref p ∧ ¬ Z p ∧ (H p = some (.dK (ks.zip vs)) ∨ (o.L p ∧ ∃ od, H p = some (.frz od (.dK (ks.zip vs))))) ∧ ks.length = vs.length ∧ Rps K Z o H ds vs
  | .src, v => ∃ st, isS o st ∧ v = .ref st
  | .raw u, v => v = u
  | .xc a d f b, v => v = .ref a ∧ ¬ Z d ∧ ∃ u, H d = some (.xd [(f, u)]) ∧ Rp K Z o H b u
def Rps (K : PySem.W.Frag) (Z : AS) (o : Sr) (H : Hp) : List B → List V → Prop
  | [], vs => vs = []
  | d :: ds, vs => ∃ v r, vs = v :: r ∧ Rp K Z o H d v ∧ Rps K Z o H ds r
end
section
variable {K : PySem.W.Frag} {Z Z' : AS} {o : Sr} {H H' : Hp}
theorem rps_nil {vs : List V} : Rps K Z o H [] vs ↔ vs = [] := by rw [Rps]
theorem rps_cons {d : B} {ds : List B} {vs : List V} : Rps K Z o H (d :: ds) vs ↔ ∃ v r, vs = v :: r ∧ Rp K Z o H d v ∧ Rps K Z o H ds r := by rw [Rps]
theorem rp_non {v : V} : Rp K Z o H .non v ↔ v = .non := by rw [Rp]
theorem rp_bl {b : Bool} {v : V} : Rp K Z o H (.bl b) v ↔ v = .bl b := by rw [Rp]
theorem rp_int {i : Int} {v : V} : Rp K Z o H (.int i) v ↔ v = .int i := by rw [Rp]
theorem rp_str {x : Str} {v : V} : Rp K Z o H (.str x) v ↔ v = .str x := by rw [Rp]
theorem rp_raw {u : V} {v : V} : Rp K Z o H (.raw u) v ↔ v = u := by rw [Rp]
theorem rp_xc {a d : Addr} {f : Str} {b : B} {v : V} : Rp K Z o H (.xc a d f b) v ↔ v = .ref a ∧ ¬ Z d ∧ ∃ u, H d = some (.xd [(f, u)]) ∧ Rp K Z o H b u := by rw [Rp]
theorem rp_src {v : V} : Rp K Z o H .src v ↔ ∃ st, isS o st ∧ v = .ref st := by rw [Rp]
theorem rp_tup {ds : List B} {v : V} : Rp K Z o H (.tup ds) v ↔ ∃ (p : Addr) (vs : List V), v = .ref p ∧ TupAt K Z H p vs ∧ Rps K Z o H ds vs := by rw [Rp]
theorem rp_lst {ds : List B} {v : V} : Rp K Z o H (.lst ds) v ↔ ∃ (p : Addr) (vs : List V), v = .ref p ∧ ¬ Z p ∧ H p = some (.lst vs) ∧ Rps K Z o H ds vs := by rw [Rp]
theorem rp_dct {ks : List Key} {ds : List B} {v : V} : Rp K Z o H (.dct ks ds) v ↔ ∃ (p : Addr) (vs : List V), v = .ref p ∧ ¬ Z p ∧ (H p = some (.dK (ks.zip vs)) ∨ (o.L p ∧ ∃ od, H p = some (.frz od (.dK (ks.zip vs))))) ∧ ks.length = vs.length ∧ Rps K Z o H ds vs := by rw [Rp]
theorem rps_len : ∀ {ds : List B} {vs : List V}, Rps K Z o H ds vs → ds.length = vs.length
  | [], vs, h => by rw [rps_nil.mp h]; rfl
  | d :: ds, vs, h => by
    obtain ⟨v, r, rfl, _, h2⟩ := rps_cons.mp h
    rw [List.length_cons, List.length_cons, rps_len h2]
theorem rps_at : ∀ {ds : List B} {vs : List V} {i : Nat} {d : B}, Rps K Z o H ds vs → ds[i]? = some d → ∃ v, vs[i]? = some v ∧ Rp K Z o H d v
  | [], vs, i, d, h, e => by simp at e
  | d :: ds, vs, 0, d', h, e => by
    obtain ⟨w, r, rfl, h1, h2⟩ := rps_cons.mp h
    have : d = d' := by simpa using e
    subst this
    exact ⟨w, rfl, h1⟩
  | d :: ds, vs, i + 1, d', h, e => by
    obtain ⟨w, r, rfl, h1, h2⟩ := rps_cons.mp h
    obtain ⟨v, a, b⟩ := rps_at (i := i) (d := d') h2 (by simpa using e)
    exact ⟨v, by simpa using a, b⟩
theorem rps_atv : ∀ {ds : List B} {vs : List V} {i : Nat} {v : V}, Rps K Z o H ds vs → vs[i]? = some v → ∃ d, ds[i]? = some d ∧ Rp K Z o H d v
  | [], vs, i, v, h, e => by rw [rps_nil.mp h] at e; simp at e
  | d :: ds, vs, 0, v, h, e => by
    obtain ⟨w, r, rfl, h1, h2⟩ := rps_cons.mp h
    have : w = v := by simpa using e
    subst this
    exact ⟨d, rfl, h1⟩
  | d :: ds, vs, i + 1, v, h, e => by
    obtain ⟨w, r, rfl, h1, h2⟩ := rps_cons.mp h
    obtain ⟨d', a, b⟩ := rps_atv (i := i) (v := v) h2 (by simpa using e)
    exact ⟨d', by simpa using a, b⟩
theorem rps_app : ∀ {ds es : List B} {vs ws : List V}, Rps K Z o H ds vs → Rps K Z o H es ws → Rps K Z o H (ds ++ es) (vs ++ ws)
  | [], es, vs, ws, h, k => by rw [rps_nil.mp h]; exact k
  | d :: ds, es, vs, ws, h, k => by
    obtain ⟨v, r, rfl, h1, h2⟩ := rps_cons.mp h
    exact rps_cons.mpr ⟨v, r ++ ws, rfl, h1, rps_app h2 k⟩
theorem rps_one {d : B} {v : V} (h : Rp K Z o H d v) : Rps K Z o H [d] [v] := rps_cons.mpr ⟨v, [], rfl, h, rps_nil.mpr rfl⟩
theorem rps_take : ∀ {ds : List B} {vs : List V} (n : Nat), Rps K Z o H ds vs → Rps K Z o H (ds.take n) (vs.take n)
  | [], vs, n, h => by
    rw [rps_nil.mp h, List.take_nil, List.take_nil]
    exact rps_nil.mpr rfl
  | d :: ds, vs, 0, h => rps_nil.mpr rfl
  | d :: ds, vs, n + 1, h => by
    obtain ⟨v, r, rfl, h1, h2⟩ := rps_cons.mp h
    exact rps_cons.mpr ⟨v, r.take n, rfl, h1, rps_take n h2⟩
theorem rps_drop : ∀ {ds : List B} {vs : List V} (n : Nat), Rps K Z o H ds vs → Rps K Z o H (ds.drop n) (vs.drop n)
  | [], vs, n, h => by
    rw [rps_nil.mp h, List.drop_nil, List.drop_nil]
    exact rps_nil.mpr rfl
  | d :: ds, vs, 0, h => h
  | d :: ds, vs, n + 1, h => by
    obtain ⟨v, r, rfl, h1, h2⟩ := rps_cons.mp h
    exact rps_drop n h2
theorem rps_set : ∀ {ds : List B} {vs : List V} {i : Nat} {d : B} {v : V}, Rps K Z o H ds vs → Rp K Z o H d v → Rps K Z o H (ds.set i d) (vs.set i v)
  | [], vs, i, d, v, h, k => by rw [rps_nil.mp h]; exact rps_nil.mpr rfl
  | e :: ds, vs, 0, d, v, h, k => by
    obtain ⟨w, r, rfl, h1, h2⟩ := rps_cons.mp h
    exact rps_cons.mpr ⟨v, r, rfl, k, h2⟩
  | e :: ds, vs, i + 1, d, v, h, k => by
    obtain ⟨w, r, rfl, h1, h2⟩ := rps_cons.mp h
    exact rps_cons.mpr ⟨w, _, rfl, h1, rps_set h2 k⟩
theorem rps_rev {ds : List B} {vs : List V} (h : Rps K Z o H ds vs) : Rps K Z o H ds.reverse vs.reverse := by
  induction ds generalizing vs with
  | nil =>
    rw [rps_nil.mp h]
    exact rps_nil.mpr rfl
  | cons d ds ih =>
    obtain ⟨v, r, rfl, h1, h2⟩ := rps_cons.mp h
    rw [List.reverse_cons, List.reverse_cons]
    exact rps_app (ih h2) (rps_one h1)
mutual
/-- off Z nothing changes -/
theorem Rp.off (e : ∀ b u, (¬ Z b ∨ isS o b) → ¬ Z b → H b = some u → H' b = some u) : ∀ {d : B} {v : V}, Rp K Z o H d v → Rp K Z o H' d v
  | .non, v, h => by rw [rp_non] at h ⊢; exact h
  | .bl _, v, h => by rw [rp_bl] at h ⊢; exact h
  | .int _, v, h => by rw [rp_int] at h ⊢; exact h
  | .str _, v, h => by rw [rp_str] at h ⊢; exact h
  | .raw _, v, h => by rw [rp_raw] at h ⊢; exact h
  | .src, v, h => by rw [rp_src] at h ⊢; exact h
  | .tup ds, v, h => by
    obtain ⟨p, vs, rfl, h1, h2⟩ := rp_tup.mp h
    refine rp_tup.mpr ⟨p, vs, rfl, ?_, Rps.off e h2⟩
    rcases h1 with ⟨h1, hz⟩ | h1
    · exact .inl ⟨e _ _ (.inl hz) hz h1, hz⟩
    · exact .inr h1
  | .lst ds, v, h => by
    obtain ⟨p, vs, rfl, hz, h1, h2⟩ := rp_lst.mp h
    exact rp_lst.mpr ⟨p, vs, rfl, hz, e _ _ (.inl hz) hz h1, Rps.off e h2⟩
  | .dct ks ds, v, h => by
    obtain ⟨p, vs, rfl, hz, h1, hl, h2⟩ := rp_dct.mp h
    refine rp_dct.mpr ⟨p, vs, rfl, hz, ?_, hl, Rps.off e h2⟩
    rcases h1 with h1 | ⟨hL, od, h1⟩
    · exact .inl (e _ _ (.inl hz) hz h1)
    · exact .inr ⟨hL, od, e _ _ (.inl hz) hz h1⟩
  | .xc a d f b, v, h => by
    obtain ⟨rfl, hz, u, h1, h2⟩ := rp_xc.mp h
    exact rp_xc.mpr ⟨rfl, hz, u, e _ _ (.inl hz) hz h1, Rp.off e h2⟩
theorem Rps.off (e : ∀ b u, (¬ Z b ∨ isS o b) → ¬ Z b → H b = some u → H' b = some u) : ∀ {ds : List B} {vs : List V}, Rps K Z o H ds vs → Rps K Z o H' ds vs
  | [], vs, h => by rw [rps_nil] at h ⊢; exact h
  | d :: ds, vs, h => by
    obtain ⟨v, r, rfl, h1, h2⟩ := rps_cons.mp h
    exact rps_cons.mpr ⟨v, r, rfl, Rp.off e h1, Rps.off e h2⟩
end
mutual
/-- what may change becomes other -/
theorem Rp.mv (e : ∀ b, ¬ Z b → H b ≠ none → ¬ Z' b) : ∀ {d : B} {v : V}, Rp K Z o H d v → Rp K Z' o H d v
  | .non, v, h => by rw [rp_non] at h ⊢; exact h
  | .bl _, v, h => by rw [rp_bl] at h ⊢; exact h
  | .int _, v, h => by rw [rp_int] at h ⊢; exact h
  | .str _, v, h => by rw [rp_str] at h ⊢; exact h
  | .raw _, v, h => by rw [rp_raw] at h ⊢; exact h
  | .src, v, h => by rw [rp_src] at h ⊢; exact h
  | .tup ds, v, h => by
    obtain ⟨p, vs, rfl, h1, h2⟩ := rp_tup.mp h
    refine rp_tup.mpr ⟨p, vs, rfl, ?_, Rps.mv e h2⟩
    rcases h1 with ⟨h1, hz⟩ | h1
    · exact .inl ⟨h1, e _ hz (by rw [h1]; exact fun z => nomatch z)⟩
    · exact .inr h1
  | .lst ds, v, h => by
    obtain ⟨p, vs, rfl, hz, h1, h2⟩ := rp_lst.mp h
    exact rp_lst.mpr ⟨p, vs, rfl, e _ hz (by rw [h1]; exact fun z => nomatch z), h1, Rps.mv e h2⟩
  | .dct ks ds, v, h => by
    obtain ⟨p, vs, rfl, hz, h1, hl, h2⟩ := rp_dct.mp h
    refine rp_dct.mpr ⟨p, vs, rfl, e _ hz ?_, h1, hl, Rps.mv e h2⟩
    rcases h1 with h1 | ⟨hL, od, h1⟩ <;> (rw [h1]; exact fun z => nomatch z)
  | .xc a d f b, v, h => by
    obtain ⟨rfl, hz, u, h1, h2⟩ := rp_xc.mp h
    exact rp_xc.mpr ⟨rfl, e _ hz (by rw [h1]; exact fun z => nomatch z), u, h1, Rp.mv e h2⟩
theorem Rps.mv (e : ∀ b, ¬ Z b → H b ≠ none → ¬ Z' b) : ∀ {ds : List B} {vs : List V}, Rps K Z o H ds vs → Rps K Z' o H ds vs
  | [], vs, h => by rw [rps_nil] at h ⊢; exact h
  | d :: ds, vs, h => by
    obtain ⟨v, r, rfl, h1, h2⟩ := rps_cons.mp h
    exact rps_cons.mpr ⟨v, r, rfl, Rp.mv e h1, Rps.mv e h2⟩
end
/-- all but the state of the draws stays -/
def Kp (o : Sr) (H H' : Hp) : Prop := ∀ b u, ¬ isS o b → H b = some u → H' b = some u
theorem Kp.refl : Kp o H H := fun _ _ _ h => h
theorem Kp.trans {H2 : Hp} (a : Kp o H H') (b : Kp o H' H2) : Kp o H H2 := fun c u n h => b c u n (a c u n h)
theorem Kp.same (e : Same H H') : Kp o H H' := fun b u _ h => e b u h
theorem Kp.to_same (n : o.s = none) (e : Kp o H H') : Same H H' := fun b u h => e b u (fun ⟨_, z⟩ => by rw [n] at z; cases z) h
theorem Kp.nw {p : Addr} {u : HO} (e : Kp o H H') (h : H' p = none) : Kp o H (upd H' p u) := fun b v n hb => by
  have := e b v n hb
  rw [upd_ne (ne_of_none this h)]
  exact this
theorem Kp.mt {p : Addr} {u : HO} (e : Kp o H H') (h : H p = none) : Kp o H (upd H' p u) := fun b v n hb => by
  rw [upd_ne (ne_of_none hb h)]
  exact e b v n hb
theorem Rp.kp {d : B} {v : V} (h : Rp K Z o H d v) (zs : ∀ st, isS o st → Z st) (e : Kp o H H') : Rp K Z o H' d v := h.off fun b u _ n hb => e b u (fun z => n (zs _ z)) hb
theorem Rps.kp {ds : List B} {vs : List V} (h : Rps K Z o H ds vs) (zs : ∀ st, isS o st → Z st) (e : Kp o H H') : Rps K Z o H' ds vs := h.off fun b u _ n hb => e b u (fun z => n (zs _ z)) hb
theorem Rp.less {d : B} {v : V} (h : Rp K Z o H d v) (e : ∀ b, Z' b → Z b) : Rp K Z' o H d v := h.mv fun b n _ z => n (e b z)
theorem Rps.less {ds : List B} {vs : List V} (h : Rps K Z o H ds vs) (e : ∀ b, Z' b → Z b) : Rps K Z' o H ds vs := h.mv fun b n _ z => n (e b z)
end
/-! ### where one stands -/
/-- a state of draws: the state, and the list it draws from -/
structure DK where
  D : Hp → Addr → Addr → Prop
  off : ∀ {H H' : Hp} {st cl : Addr}, D H st cl → H' st = H st → H' cl = H cl → D H' st cl
  st : ∀ {H : Hp} {st cl : Addr}, D H st cl → H st ≠ none
  cl : ∀ {H : Hp} {st cl : Addr}, D H st cl → ∃ xs, H cl = some (.lst xs)
  ne : ∀ {H : Hp} {st cl : Addr}, D H st cl → cl ≠ st
  /-- no loop walks a dict now -/
  U : Prop
  /-- what may be said of where a def started: its heap, what may not be shared, the state -/
  wok : Hp → AS → Sr → Prop := fun _ _ _ => True
def DK.lo (G : DK) : DK := { G with U := False, wok := fun _ _ _ => True }
inductive Cell where
  | no | sh (b : B) | ow (b : B)
structure Wd where
  H0 : Hp
  Z0 : AS
  o : Sr
  T : List (B × V)
  T2 : List (Addr × HO)
  HX : Hp
  ZX : AS
def ownA (Γ : List Cell) (σ : L2.St) (p : Addr) : Prop := ∃ (i : Nat) (b : B), Γ[i]? = some (Cell.ow b) ∧ σ[i]? = some (some (V.ref p))
def ZZ (W : Wd) (Γ : List Cell) (σ : L2.St) : AS := fun p => W.Z0 p ∨ ownA Γ σ p
def OwAt (K : PySem.W.Frag) (Z : AS) (o : Sr) (H : Hp) (p : Addr) : B → Prop
  | .lst ds => ∃ vs, H p = some (.lst vs) ∧ Rps K Z o H ds vs
  | .dct ks ds => ∃ vs, H p = some (.dK (ks.zip vs)) ∧ ks.length = vs.length ∧ Rps K Z o H ds vs
  | _ => False
def DOk (G : DK) (W : Wd) (H : Hp) : Prop := ∀ st cl, W.o.s = some (st, cl) → G.D H st cl
structure Env (G : DK) (K : PySem.W.Frag) (W : Wd) (Γ : List Cell) (σ : L2.St) (H : Hp) : Prop where
  len : Γ.length = σ.length
  dok : DOk G W H
  src : ∀ st cl, W.o.s = some (st, cl) → W.Z0 st ∧ ¬ ZZ W Γ σ cl
  kp : Kp W.o W.H0 H
  zt : ∀ p, W.Z0 p → H p ≠ none
  tmp : ∀ b v, (b, v) ∈ W.T → Rp K (ZZ W Γ σ) W.o H b v
  sh : ∀ (i : Nat) (b : B), Γ[i]? = some (Cell.sh b) → ∃ v : V, σ[i]? = some (some v) ∧ Rp K (ZZ W Γ σ) W.o H b v
  ow : ∀ (i : Nat) (b : B), Γ[i]? = some (Cell.ow b) → ∃ p : Addr, σ[i]? = some (some (V.ref p)) ∧ W.H0 p = none ∧ ¬ W.Z0 p ∧ OwAt K (ZZ W Γ σ) W.o H p b
  dis : ∀ (i j : Nat) (b c : B) (p : Addr), Γ[i]? = some (Cell.ow b) → Γ[j]? = some (Cell.ow c) → σ[i]? = some (some (V.ref p)) → σ[j]? = some (some (V.ref p)) → i = j
  lk : G.U → ∀ p, ¬ W.o.L p
  wok : G.wok W.HX W.ZX W.o
  kx : Kp W.o W.HX W.H0
  zx : ∀ p, W.ZX p → W.Z0 p ∧ W.H0 p ≠ none
  tm2 : ∀ a u, (a, u) ∈ W.T2 → H a = some u ∧ ¬ ZZ W Γ σ a
section
variable {G : DK} {K : PySem.W.Frag} {W : Wd} {Γ : List Cell} {σ : L2.St} {H H' : Hp}
theorem OwAt.some {Z : AS} {o : Sr} {p : Addr} {b : B} (h : OwAt K Z o H p b) : H p ≠ none := by
  cases b <;> first
    | exact h.elim
    | (obtain ⟨vs, h, _⟩ := h
       rw [h]
       exact fun z => nomatch z)
theorem OwAt.kp {Z : AS} {o : Sr} {p : Addr} {b : B} (h : OwAt K Z o H p b) (zs : ∀ st, isS o st → Z st) (hp : ¬ isS o p) (e : Kp o H H') : OwAt K Z o H' p b := by
  cases b <;> first
    | exact h.elim
    | (obtain ⟨vs, h, h2⟩ := h
       exact ⟨vs, e _ _ hp h, h2.kp zs e⟩)
    | (obtain ⟨vs, h, hl, h2⟩ := h
       exact ⟨vs, e _ _ hp h, hl, h2.kp zs e⟩)
theorem OwAt.mv {Z Z' : AS} {o : Sr} {p : Addr} {b : B} (h : OwAt K Z o H p b) (e : ∀ b, ¬ Z b → H b ≠ none → ¬ Z' b) : OwAt K Z' o H p b := by
  cases b <;> first
    | exact h.elim
    | (obtain ⟨vs, h, h2⟩ := h
       exact ⟨vs, h, h2.mv e⟩)
    | (obtain ⟨vs, h, hl, h2⟩ := h
       exact ⟨vs, h, hl, h2.mv e⟩)
/-- .. as a value that is read, if it is among what may change no more -/
theorem OwAt.rp {Z : AS} {o : Sr} {p : Addr} {b : B} (h : OwAt K Z o H p b) (hz : ¬ Z p) : Rp K Z o H b (.ref p) := by
  cases b with
  | lst ds =>
    obtain ⟨vs, h, h2⟩ := h
    exact rp_lst.mpr ⟨p, vs, rfl, hz, h, h2⟩
  | dct ks ds =>
    obtain ⟨vs, h, hl, h2⟩ := h
    exact rp_dct.mpr ⟨p, vs, rfl, hz, .inl h, hl, h2⟩
  | _ => exact h.elim
theorem Env.zs (E : Env G K W Γ σ H) : ∀ st, isS W.o st → ZZ W Γ σ st := fun st ⟨cl, e⟩ => .inl (E.src st cl e).1
theorem Env.zz (E : Env G K W Γ σ H) : ∀ p, ZZ W Γ σ p → H p ≠ none := fun p h => by
  rcases h with h | ⟨i, b, h1, h2⟩
  · exact E.zt p h
  · obtain ⟨q, e1, _, _, h3⟩ := E.ow i b h1
    rw [h2] at e1
    cases e1
    exact h3.some
theorem Env.noS (E : Env G K W Γ σ H) {i : Nat} {b : B} {p : Addr} (h1 : Γ[i]? = some (.ow b)) (h2 : σ[i]? = some (some (.ref p))) : ¬ isS W.o p := fun z => by
  obtain ⟨q, e1, _, hz, _⟩ := E.ow i b h1
  rw [h2] at e1
  cases e1
  obtain ⟨cl, z⟩ := z
  exact hz (E.src p cl z).1
/-- a step that keeps all -/
theorem Env.step (E : Env G K W Γ σ H) (e : Kp W.o H H') (d : DOk G W H') : Env G K W Γ σ H' where
  len := E.len
  dok := d
  src := E.src
  kp := E.kp.trans e
  zt := fun p hz => by
    by_cases hs : isS W.o p
    · obtain ⟨cl, hs⟩ := hs
      exact G.st (d p cl hs)
    · have := E.zt p hz
      cases h : H p with
      | none => exact absurd h this
      | some u =>
        rw [e p u hs h]
        exact fun z => nomatch z
  tmp := fun b v h => (E.tmp b v h).kp E.zs e
  sh := fun i b h => by
    obtain ⟨v, h1, h2⟩ := E.sh i b h
    exact ⟨v, h1, h2.kp E.zs e⟩
  ow := fun i b h => by
    obtain ⟨p, h1, h2, h3, h4⟩ := E.ow i b h
    exact ⟨p, h1, h2, h3, h4.kp E.zs (E.noS h h1) e⟩
  dis := E.dis
  lk := E.lk
  wok := E.wok
  kx := E.kx
  zx := E.zx
  tm2 := fun a u h => ⟨e _ _ (fun z => (E.tm2 a u h).2 (E.zs a z)) (E.tm2 a u h).1, (E.tm2 a u h).2⟩
theorem DOk.same (d : DOk G W H) (e : Same H H') : DOk G W H' := fun st cl h => by
  have hd := d st cl h
  refine G.off hd ?_ ?_
  · cases q : H st with
    | none => exact absurd q (G.st hd)
    | some u => exact e _ _ q
  · obtain ⟨xs, q⟩ := G.cl hd
    rw [q]
    exact e _ _ q
theorem Env.same (E : Env G K W Γ σ H) (e : Same H H') : Env G K W Γ σ H' := E.step (Kp.same e) (E.dok.same e)
/-- a new object -/
theorem Env.nw (E : Env G K W Γ σ H) {p : Addr} {u : HO} (h : H p = none) : Env G K W Γ σ (upd H p u) := E.same ((Same.refl H).nw h)
theorem Env.fresh (E : Env G K W Γ σ H) {p : Addr} (h : H p = none) : W.H0 p = none ∧ ¬ ZZ W Γ σ p ∧ ¬ isS W.o p := by
  have hz : ¬ ZZ W Γ σ p := fun z => E.zz p z h
  have hs : ¬ isS W.o p := fun z => hz (E.zs p z)
  refine ⟨?_, hz, hs⟩
  cases q : W.H0 p with
  | none => rfl
  | some u =>
    rw [E.kp p u hs q] at h
    cases h
theorem own_set {i : Nat} {b : B} {ov : Option V} {p : Addr} (h : ownA (Γ.set i (.sh b)) (σ.set i ov) p) : ownA Γ σ p := by
  obtain ⟨j, c, h1, h2⟩ := h
  by_cases hj : i = j
  · subst hj
    rw [List.getElem?_set] at h1
    simp at h1
  · rw [List.getElem?_set_ne hj] at h1 h2
    exact ⟨j, c, h1, h2⟩
/-- a name gets a value -/
theorem Env.set (E : Env G K W Γ σ H) {i : Nat} {b : B} {v : V} (h : Rp K (ZZ W Γ σ) W.o H b v) : Env G K W (Γ.set i (.sh b)) (σ.set i (some v)) H := by
  have ls : ∀ p, ZZ W (Γ.set i (.sh b)) (σ.set i (some v)) p → ZZ W Γ σ p := fun p z => z.imp id own_set
  have ix : ∀ {j : Nat} {c : Cell}, (Γ.set i (.sh b))[j]? = some c → i ≠ j → Γ[j]? = some c ∧ (σ.set i (some v))[j]? = σ[j]? := fun {j c} h hj => by
    rw [List.getElem?_set_ne hj] at h
    exact ⟨h, List.getElem?_set_ne hj⟩
  have ow : ∀ {j : Nat} {c : B}, (Γ.set i (.sh b))[j]? = some (.ow c) → Γ[j]? = some (.ow c) ∧ (σ.set i (some v))[j]? = σ[j]? := fun {j c} h => by
    by_cases hj : i = j
    · subst hj
      rw [List.getElem?_set] at h
      simp at h
    · exact ix h hj
  refine ⟨by rw [List.length_set, List.length_set, E.len], E.dok, fun st cl e => ⟨(E.src st cl e).1, fun z => (E.src st cl e).2 (ls _ z)⟩, E.kp, E.zt, fun c u hc => (E.tmp c u hc).less ls, fun j c hc => ?_, fun j c hc => ?_, fun j k c d p h1 h2 h3 h4 => ?_, E.lk, E.wok, E.kx, E.zx, fun a u h => ⟨(E.tm2 a u h).1, fun z => (E.tm2 a u h).2 (ls _ z)⟩⟩
  · by_cases hj : i = j
    · subst hj
      have hi : i < Γ.length := by
        have := (List.getElem?_eq_some_iff.mp hc).1
        rwa [List.length_set] at this
      rw [List.getElem?_set_self hi] at hc
      cases hc
      exact ⟨v, List.getElem?_set_self (by rw [← E.len]; exact hi), h.less ls⟩
    · obtain ⟨h1, h2⟩ := ix hc hj
      obtain ⟨u, e1, e2⟩ := E.sh j c h1
      exact ⟨u, h2.trans e1, e2.less ls⟩
  · obtain ⟨h1, h2⟩ := ow hc
    obtain ⟨p, e1, e2, e3, e4⟩ := E.ow j c h1
    exact ⟨p, h2.trans e1, e2, e3, e4.mv fun b n _ z => n (ls b z)⟩
  · obtain ⟨a1, a2⟩ := ow h1
    obtain ⟨b1, b2⟩ := ow h2
    exact E.dis j k c d p a1 b1 (a2 ▸ h3) (b2 ▸ h4)
/-- .. with one thing more that may change -/
def Wd.plus (W : Wd) (p : Addr) : Wd := { W with Z0 := fun q => W.Z0 q ∨ q = p }
theorem zz_plus {p q : Addr} : ZZ (W.plus p) Γ σ q ↔ ZZ W Γ σ q ∨ q = p := by
  constructor
  · rintro ((h | h) | h)
    · exact .inl (.inl h)
    · exact .inr h
    · exact .inl (.inr h)
  · rintro ((h | h) | h)
    · exact .inl (.inl h)
    · exact .inr h
    · exact .inl (.inr h)
theorem Env.plus (E : Env G K W Γ σ H) {p : Addr} (h : H p = none) {u : HO} : Env G K (W.plus p) Γ σ (upd H p u) := by
  have E2 := E.nw (u := u) h
  obtain ⟨f1, f2, f3⟩ := E.fresh h
  have mvt : ∀ b, ¬ ZZ W Γ σ b → H b ≠ none → ¬ ZZ (W.plus p) Γ σ b := fun b n hb z => (zz_plus.mp z).elim n fun e => hb (by rw [e]; exact h)
  have kk : Kp W.o H (upd H p u) := (Kp.refl).nw h
  have zs' : ∀ st, isS W.o st → ZZ (W.plus p) Γ σ st := fun st z => zz_plus.mpr (.inl (E.zs st z))
  refine ⟨E.len, E2.dok, fun st cl e => ⟨.inl (E.src st cl e).1, fun z => (zz_plus.mp z).elim (E.src st cl e).2 fun e2 => ?_⟩, E2.kp, fun q hq => ?_, fun b v hb => ((E.tmp b v hb).mv mvt).kp zs' kk, fun i b hb => ?_, fun i b hb => ?_, E.dis, E.lk, E.wok, E.kx, fun q z => ⟨.inl (E.zx q z).1, (E.zx q z).2⟩, fun a u h' => ⟨by rw [upd_ne (ne_of_none (E.tm2 a u h').1 h)]; exact (E.tm2 a u h').1, fun z => (zz_plus.mp z).elim (E.tm2 a u h').2 fun e => ne_of_none (E.tm2 a u h').1 h e⟩⟩
  · obtain ⟨xs, q⟩ := G.cl (E.dok st cl e)
    rw [e2, h] at q
    cases q
  · rcases hq with hq | hq
    · exact E2.zt q hq
    · rw [show q = p from hq, upd_same]
      exact fun z => nomatch z
  · obtain ⟨v, h1, h2⟩ := E.sh i b hb
    exact ⟨v, h1, (h2.mv mvt).kp zs' kk⟩
  · obtain ⟨q, h1, h2, h3, h4⟩ := E.ow i b hb
    refine ⟨q, h1, h2, fun z => z.elim h3 fun e => ?_, (h4.mv mvt).kp zs' (E.noS hb h1) kk⟩
    exact h4.some (by rw [show q = p from e]; exact h)
/-- .. it changes -/
theorem Env.put {p : Addr} (E : Env G K (W.plus p) Γ σ H) (h0 : W.H0 p = none) (hs : ¬ isS W.o p) (ho : ¬ ownA Γ σ p) {u : HO} : Env G K (W.plus p) Γ σ (upd H p u) := by
  have off : ∀ b v, (¬ ZZ (W.plus p) Γ σ b ∨ isS W.o b) → ¬ ZZ (W.plus p) Γ σ b → H b = some v → upd H p u b = some v := fun b v _ n hb => by
    rw [upd_ne fun e => n (zz_plus.mpr (.inr e))]
    exact hb
  refine ⟨E.len, fun st cl e => G.off (E.dok st cl e) (upd_ne fun z => hs (by rw [← z]; exact ⟨cl, e⟩)) (upd_ne fun z => (E.src st cl e).2 (zz_plus.mpr (.inr z))), E.src, E.kp.mt h0, fun q hq => ?_, fun b v h => (E.tmp b v h).off off, fun i b h => ?_, fun i b h => ?_, E.dis, E.lk, E.wok, E.kx, E.zx, fun a v h => ⟨by rw [upd_ne fun e => (E.tm2 a v h).2 (zz_plus.mpr (.inr e))]; exact (E.tm2 a v h).1, (E.tm2 a v h).2⟩⟩
  · by_cases e : q = p
    · rw [e, upd_same]
      exact fun z => nomatch z
    · rw [upd_ne e]
      exact E.zt q hq
  · obtain ⟨v, h1, h2⟩ := E.sh i b h
    exact ⟨v, h1, h2.off off⟩
  · obtain ⟨q, h1, h2, h3, h4⟩ := E.ow i b h
    have hq : q ≠ p := fun e => ho ⟨i, b, h, by rw [← e]; exact h1⟩
    refine ⟨q, h1, h2, h3, ?_⟩
    cases b <;> first
      | exact h4.elim
      | (obtain ⟨vs, a, b⟩ := h4
         exact ⟨vs, (upd_ne hq).trans a, b.off off⟩)
      | (obtain ⟨vs, a, hl, b⟩ := h4
         exact ⟨vs, (upd_ne hq).trans a, hl, b.off off⟩)
theorem Env.minus {p : Addr} (E : Env G K (W.plus p) Γ σ H) (h0 : W.H0 p = none) (hs : ¬ isS W.o p) : Env G K W Γ σ H := by
  have ls : ∀ q, ZZ W Γ σ q → ZZ (W.plus p) Γ σ q := fun q z => zz_plus.mpr (.inl z)
  refine ⟨E.len, E.dok, fun st cl e => ⟨?_, fun z => (E.src st cl e).2 (ls _ z)⟩, E.kp, fun q hq => E.zt q (.inl hq), fun b v h => (E.tmp b v h).less ls, fun i b h => ?_, fun i b h => ?_, E.dis, E.lk, E.wok, E.kx, fun q z => ⟨(E.zx q z).1.elim id fun e => absurd h0 (by rw [← (show q = p from e)]; exact (E.zx q z).2), (E.zx q z).2⟩, fun a v h => ⟨(E.tm2 a v h).1, fun z => (E.tm2 a v h).2 (ls _ z)⟩⟩
  · rcases (E.src st cl e).1 with h | h
    · exact h
    · exact absurd ⟨cl, by rw [← (show st = p from h)]; exact e⟩ hs
  · obtain ⟨v, h1, h2⟩ := E.sh i b h
    exact ⟨v, h1, h2.less ls⟩
  · obtain ⟨q, h1, h2, h3, h4⟩ := E.ow i b h
    exact ⟨q, h1, h2, fun z => h3 (.inl z), h4.mv fun b n _ z => n (ls b z)⟩
/-- what is new becomes a name's own -/
theorem Env.own {p : Addr} {b : B} {i : Nat} (E : Env G K (W.plus p) Γ σ H) (h0 : W.H0 p = none) (hs : ¬ isS W.o p) (hz : ¬ ZZ W Γ σ p) (hb : OwAt K (ZZ (W.plus p) Γ σ) W.o H p b) : Env G K W (Γ.set i (.ow b)) (σ.set i (some (.ref p))) H := by
  have ls : ∀ q, ZZ W (Γ.set i (.ow b)) (σ.set i (some (.ref p))) q → ZZ (W.plus p) Γ σ q := fun q z => by
    rcases z with z | ⟨j, c, h1, h2⟩
    · exact .inl (.inl z)
    · by_cases hj : i = j
      · subst hj
        have hi : i < σ.length := by
          have := (List.getElem?_eq_some_iff.mp h2).1
          rwa [List.length_set] at this
        rw [List.getElem?_set_self hi] at h2
        cases h2
        exact .inl (.inr rfl)
      · rw [List.getElem?_set_ne hj] at h1 h2
        exact .inr ⟨j, c, h1, h2⟩
  have E1 := E.minus h0 hs
  refine ⟨by rw [List.length_set, List.length_set, E.len], E.dok, fun st cl e => ⟨(E1.src st cl e).1, fun z => (E.src st cl e).2 (ls _ z)⟩, E.kp, E1.zt, fun c v h => (E.tmp c v h).less ls, fun j c h => ?_, fun j c h => ?_, fun j k c d q h1 h2 h3 h4 => ?_, E.lk, E.wok, E.kx, E1.zx, fun a v h => ⟨(E.tm2 a v h).1, fun z => (E.tm2 a v h).2 (ls _ z)⟩⟩
  · by_cases hj : i = j
    · subst hj
      rw [List.getElem?_set] at h
      simp at h
    · rw [List.getElem?_set_ne hj] at h ⊢
      obtain ⟨v, a1, a2⟩ := E.sh j c h
      exact ⟨v, a1, a2.less ls⟩
  · by_cases hj : i = j
    · subst hj
      have hi : i < Γ.length := by
        have := (List.getElem?_eq_some_iff.mp h).1
        rwa [List.length_set] at this
      rw [List.getElem?_set_self hi] at h
      cases h
      exact ⟨p, List.getElem?_set_self (by rw [← E.len]; exact hi), h0, fun z => hz (.inl z), hb.mv fun b n _ z => n (ls b z)⟩
    · rw [List.getElem?_set_ne hj] at h ⊢
      obtain ⟨q, a1, a2, a3, a4⟩ := E1.ow j c h
      obtain ⟨q', a1', _, _, a4'⟩ := E.ow j c h
      rw [a1] at a1'
      cases a1'
      exact ⟨q, a1, a2, a3, a4'.mv fun b n _ z => n (ls b z)⟩
  · have old : ∀ {m : Nat} {c : B}, i ≠ m → (Γ.set i (.ow b))[m]? = some (Cell.ow c) → (σ.set i (some (.ref p)))[m]? = some (some (V.ref q)) → Γ[m]? = some (Cell.ow c) ∧ σ[m]? = some (some (V.ref q)) := fun {m c} hm a1 a2 => by
      rw [List.getElem?_set_ne hm] at a1 a2
      exact ⟨a1, a2⟩
    have new : ∀ {m : Nat} {c : B}, i = m → (Γ.set i (.ow b))[m]? = some (Cell.ow c) → (σ.set i (some (.ref p)))[m]? = some (some (V.ref q)) → q = p := fun {m c} hm a1 a2 => by
      subst hm
      have hi : i < σ.length := by
        have := (List.getElem?_eq_some_iff.mp a2).1
        rwa [List.length_set] at this
      rw [List.getElem?_set_self hi] at a2
      cases a2
      rfl
    by_cases hj : i = j
    · by_cases hk : i = k
      · exact hj.symm.trans hk
      · obtain ⟨a1, a2⟩ := old hk h2 h4
        have e := new hj h1 h3
        exact absurd (.inr ⟨k, d, a1, by rw [← e]; exact a2⟩) hz
    · by_cases hk : i = k
      · obtain ⟨a1, a2⟩ := old hj h1 h3
        have e := new hk h2 h4
        exact absurd (.inr ⟨j, c, a1, by rw [← e]; exact a2⟩) hz
      · obtain ⟨a1, a2⟩ := old hj h1 h3
        obtain ⟨b1, b2⟩ := old hk h2 h4
        exact E.dis j k c d q a1 b1 a2 b2
theorem set_id {i : Nat} {p : Addr} (h : σ[i]? = some (some (V.ref p))) : σ.set i (some (.ref p)) = σ := by
  refine List.ext_getElem? fun j => ?_
  by_cases hj : i = j
  · subst hj
    have hi := (List.getElem?_eq_some_iff.mp h).1
    rw [List.getElem?_set_self hi, h]
  · rw [List.getElem?_set_ne hj]
/-- what is a name's own is hidden for a while -/
theorem Env.hide {p : Addr} {b : B} {i : Nat} (E : Env G K W Γ σ H) (h1 : Γ[i]? = some (.ow b)) (h2 : σ[i]? = some (some (V.ref p))) :
    Env G K (W.plus p) (Γ.set i .no) σ H ∧ W.H0 p = none ∧ ¬ isS W.o p ∧ ¬ ZZ W (Γ.set i .no) σ p ∧ OwAt K (ZZ (W.plus p) (Γ.set i .no) σ) W.o H p b ∧ ∀ q, ZZ W Γ σ q ↔ ZZ (W.plus p) (Γ.set i .no) σ q := by
  have old : ∀ {j : Nat} {c : B}, (Γ.set i .no)[j]? = some (Cell.ow c) → i ≠ j ∧ Γ[j]? = some (Cell.ow c) := fun {j c} h => by
    by_cases hj : i = j
    · subst hj
      rw [List.getElem?_set] at h
      simp at h
    · rw [List.getElem?_set_ne hj] at h
      exact ⟨hj, h⟩
  have olds : ∀ {j : Nat} {c : B}, (Γ.set i .no)[j]? = some (Cell.sh c) → Γ[j]? = some (Cell.sh c) := fun {j c} h => by
    by_cases hj : i = j
    · subst hj
      rw [List.getElem?_set] at h
      simp at h
    · rw [List.getElem?_set_ne hj] at h
      exact h
  obtain ⟨p', e, a1, a2, a3⟩ := E.ow i b h1
  rw [h2] at e
  cases e
  have iff : ∀ q, ZZ W Γ σ q ↔ ZZ (W.plus p) (Γ.set i .no) σ q := fun q => by
    rw [zz_plus]
    constructor
    · rintro (h | ⟨j, c, k1, k2⟩)
      · exact .inl (.inl h)
      · by_cases hj : i = j
        · subst hj
          rw [h2] at k2
          cases k2
          exact .inr rfl
        · exact .inl (.inr ⟨j, c, by rw [List.getElem?_set_ne hj]; exact k1, k2⟩)
    · rintro ((h | ⟨j, c, k1, k2⟩) | h)
      · exact .inl h
      · exact .inr ⟨j, c, (old k1).2, k2⟩
      · rw [h]
        exact .inr ⟨i, b, h1, h2⟩
  have ls : ∀ q, ZZ (W.plus p) (Γ.set i .no) σ q → ZZ W Γ σ q := fun q z => (iff q).mpr z
  refine ⟨⟨by rw [List.length_set, E.len], E.dok, fun st cl e => ⟨.inl (E.src st cl e).1, fun z => (E.src st cl e).2 (ls _ z)⟩, E.kp, fun q hq => ?_, fun c v h => (E.tmp c v h).less ls, fun j c h => ?_, fun j c h => ?_, fun j k c d q k1 k2 k3 k4 => E.dis j k c d q (old k1).2 (old k2).2 k3 k4, E.lk, E.wok, E.kx, fun q z => ⟨.inl (E.zx q z).1, (E.zx q z).2⟩, fun a v h => ⟨(E.tm2 a v h).1, fun z => (E.tm2 a v h).2 (ls _ z)⟩⟩, a1, E.noS h1 h2, fun z => ?_, a3.mv fun b n _ z => n (ls b z), iff⟩
  · rcases hq with hq | hq
    · exact E.zt q hq
    · rw [show q = p from hq]
      exact a3.some
  · obtain ⟨v, k1, k2⟩ := E.sh j c (olds h)
    exact ⟨v, k1, k2.less ls⟩
  · obtain ⟨hj, h'⟩ := old h
    obtain ⟨q, k1, k2, k3, k4⟩ := E.ow j c h'
    refine ⟨q, k1, k2, fun z => z.elim k3 fun e => hj (E.dis i j b c p h1 h' h2 ?_), k4.mv fun b n _ z => n (ls b z)⟩
    rw [k1, show q = p from e]
  · rcases z with z | ⟨j, c, k1, k2⟩
    · exact a2 z
    · obtain ⟨hj, h'⟩ := old k1
      exact hj (E.dis i j b c p h1 h' h2 k2)
theorem set_set {α : Type} {l : List α} {i : Nat} {x y : α} : (l.set i x).set i y = l.set i y := by
  refine List.ext_getElem? fun j => ?_
  by_cases hj : i = j
  · subst hj
    by_cases hi : i < l.length
    · rw [List.getElem?_set_self (by rw [List.length_set]; exact hi), List.getElem?_set_self hi]
    · rw [List.getElem?_eq_none (by rw [List.length_set, List.length_set]; omega), List.getElem?_eq_none (by rw [List.length_set]; omega)]
  · rw [List.getElem?_set_ne hj, List.getElem?_set_ne hj, List.getElem?_set_ne hj]
/-- .. and changes -/
theorem Env.mut {p : Addr} {b b' : B} {i : Nat} {u : HO} (E : Env G K W Γ σ H) (h1 : Γ[i]? = some (.ow b)) (h2 : σ[i]? = some (some (V.ref p))) (hb : OwAt K (ZZ W Γ σ) W.o (upd H p u) p b') : Env G K W (Γ.set i (.ow b')) σ (upd H p u) := by
  obtain ⟨E1, a1, a2, a3, _, iff⟩ := E.hide h1 h2
  have E2 := (E1.put a1 a2 (fun z => a3 (.inr z)) (u := u)).own (i := i) (b := b') a1 a2 a3 (hb.mv fun b n _ z => n ((iff b).mpr z))
  rw [set_set, set_id h2] at E2
  exact E2
/-- .. and is a name's own no more -/
theorem Env.freeze {b : B} {i : Nat} (E : Env G K W Γ σ H) (h1 : Γ[i]? = some (.ow b)) : Env G K W (Γ.set i (.sh b)) σ H := by
  obtain ⟨p, h2, _⟩ := E.ow i b h1
  obtain ⟨E1, a1, a2, a3, a4, iff⟩ := E.hide h1 h2
  have E2 := (E1.minus a1 a2).set (i := i) (b := b) (v := .ref p) ((a4.mv fun q n _ z => n (zz_plus.mpr (.inl z))).rp a3)
  rw [set_set, set_id h2] at E2
  exact E2
/-- values kept by the way -/
def Wd.keep (W : Wd) (l : List (B × V)) : Wd := { W with T := l ++ W.T }
def Wd.keep2 (W : Wd) (l : List (Addr × HO)) : Wd := { W with T2 := l ++ W.T2 }
theorem Env.keep (E : Env G K W Γ σ H) {l : List (B × V)} (h : ∀ b v, (b, v) ∈ l → Rp K (ZZ W Γ σ) W.o H b v) : Env G K (W.keep l) Γ σ H := ⟨E.len, E.dok, E.src, E.kp, E.zt, fun b v hb => (List.mem_append.mp hb).elim (h b v) (E.tmp b v), E.sh, E.ow, E.dis, E.lk, E.wok, E.kx, E.zx, E.tm2⟩
theorem Env.drop {l : List (B × V)} (E : Env G K (W.keep l) Γ σ H) : Env G K W Γ σ H := ⟨E.len, E.dok, E.src, E.kp, E.zt, fun b v hb => E.tmp b v (List.mem_append_right _ hb), E.sh, E.ow, E.dis, E.lk, E.wok, E.kx, E.zx, E.tm2⟩
theorem Env.keep2 (E : Env G K W Γ σ H) {l : List (Addr × HO)} (h : ∀ a u, (a, u) ∈ l → H a = some u ∧ ¬ ZZ W Γ σ a) : Env G K (W.keep2 l) Γ σ H := ⟨E.len, E.dok, E.src, E.kp, E.zt, E.tmp, E.sh, E.ow, E.dis, E.lk, E.wok, E.kx, E.zx, fun a u hb => (List.mem_append.mp hb).elim (h a u) (E.tm2 a u)⟩
theorem Env.drop2 {l : List (Addr × HO)} (E : Env G K (W.keep2 l) Γ σ H) : Env G K W Γ σ H := ⟨E.len, E.dok, E.src, E.kp, E.zt, E.tmp, E.sh, E.ow, E.dis, E.lk, E.wok, E.kx, E.zx, fun a u hb => E.tm2 a u (List.mem_append_right _ hb)⟩
end
end BV

set_option Elab.async false
set_option linter.all false
set_option maxRecDepth 100000
set_option maxHeartbeats 4000000
/-! the rules by value -/
namespace BV
open PySem PySem.Spec PyProof.Rows L2 G0
section
variable (G : DK) (K : PySem.W.Frag)
def bwE (te : TE) (Γ : List Cell) (Post : B → Prop) : Prop := ∀ (W : Wd) (σ : L2.St) (H : Hp) (Q : VK), Env G K W Γ σ H → (∀ (b : B) (v : V) (H' : Hp), Post b → Kp W.o H H' → Env G K W Γ σ H' → Rp K (ZZ W Γ σ) W.o H' b v → Q v H') → te σ H Q
def bwA (ta : TA) (Γ : List Cell) (Post : List B → Prop) : Prop := ∀ (W : Wd) (σ : L2.St) (H : Hp) (Q : List V → Hp → Prop), Env G K W Γ σ H → (∀ (bs : List B) (vs : List V) (H' : Hp), Post bs → Kp W.o H H' → Env G K W Γ σ H' → Rps K (ZZ W Γ σ) W.o H' bs vs → Q vs H') → ta σ H Q
def bwT (tt : TT) (Γ : List Cell) (Post : Bool → Prop) : Prop := ∀ (W : Wd) (σ : L2.St) (H : Hp) (Q : Bool → Hp → Prop), Env G K W Γ σ H → (∀ (b : Bool) (H' : Hp), Post b → Kp W.o H H' → Env G K W Γ σ H' → Q b H') → tt σ H Q
/-- .. that makes a new list or dict -/
def bwN (te : TE) (Γ : List Cell) (Post : B → Prop) : Prop := ∀ (W : Wd) (σ : L2.St) (H : Hp) (Q : VK), Env G K W Γ σ H → (∀ (b : B) (p : Addr) (H' : Hp), Post b → Kp W.o H H' → Env G K (W.plus p) Γ σ H' → W.H0 p = none → ¬ isS W.o p → ¬ ZZ W Γ σ p → OwAt K (ZZ (W.plus p) Γ σ) W.o H' p b → Q (.ref p) H') → te σ H Q
def bwR1 (r : V → Hp → VK → Prop) (x : B) (Post : B → Prop) : Prop := ∀ (W : Wd) (Γ : List Cell) (σ : L2.St) (H : Hp) (v : V) (Q : VK), Env G K W Γ σ H → Rp K (ZZ W Γ σ) W.o H x v → (∀ (b : B) (z : V) (H' : Hp), Post b → Kp W.o H H' → Env G K W Γ σ H' → Rp K (ZZ W Γ σ) W.o H' b z → Q z H') → r v H Q
def bwR2 (r : R2) (x y : B) (Post : B → Prop) : Prop := ∀ (W : Wd) (Γ : List Cell) (σ : L2.St) (H : Hp) (v u : V) (Q : VK), Env G K W Γ σ H → Rp K (ZZ W Γ σ) W.o H x v → Rp K (ZZ W Γ σ) W.o H y u → (∀ (b : B) (z : V) (H' : Hp), Post b → Kp W.o H H' → Env G K W Γ σ H' → Rp K (ZZ W Γ σ) W.o H' b z → Q z H') → r v u H Q
def bwRA (r : List V → Hp → VK → Prop) (xs : List B) (Post : B → Prop) : Prop := ∀ (W : Wd) (Γ : List Cell) (σ : L2.St) (H : Hp) (vs : List V) (Q : VK), Env G K W Γ σ H → Rps K (ZZ W Γ σ) W.o H xs vs → (∀ (b : B) (z : V) (H' : Hp), Post b → Kp W.o H H' → Env G K W Γ σ H' → Rp K (ZZ W Γ σ) W.o H' b z → Q z H') → r vs H Q
structure En where
  N : List Cell → Prop
  R : B → Prop
  Bk : List Cell → Prop := fun _ => False
  Ct : List Cell → Prop := fun _ => False
def Fin (W : Wd) (H' : Hp) (b : B) (v : V) : Prop := Kp W.o W.H0 H' ∧ DOk G W H' ∧ Rp K W.Z0 W.o H' b v
def bwS (ts : TS) (Γ : List Cell) (e : En) : Prop := ∀ (W : Wd) (σ : L2.St) (H : Hp) (D : Ends), Env G K W Γ σ H →
  (∀ (Γ' : List Cell) (σ' : L2.St) (H' : Hp), e.N Γ' → Env G K W Γ' σ' H' → D.nx σ' H') → (∀ (b : B) (v : V) (H' : Hp), e.R b → Fin G K W H' b v → D.rt v H') →
  (∀ (Γ' : List Cell) (σ' : L2.St) (H' : Hp), e.Bk Γ' → Env G K W Γ' σ' H' → D.bk σ' H') → (∀ (Γ' : List Cell) (σ' : L2.St) (H' : Hp), e.Ct Γ' → Env G K W Γ' σ' H' → D.ct σ' H') → ts D σ H
/-- a def by value: Wp says what may come of the arguments -/
def SpB (Wp : List B → (B → Prop) → Prop) : Sp := fun vs H Q _ => ∃ (Z : AS) (o : Sr) (bs : List B) (R : B → Prop), (G.U → ∀ p, ¬ o.L p) ∧ (∀ st cl, o.s = some (st, cl) → G.D H st cl ∧ Z st ∧ ¬ Z cl) ∧ (∀ p, Z p → H p ≠ none) ∧ Rps K Z o H bs vs ∧ Wp bs R ∧
  ∀ (b : B) (v : V) (H' : Hp), R b → Kp o H H' → (∀ st cl, o.s = some (st, cl) → G.D H' st cl) → Rp K Z o H' b v → Q v H'
end
section
variable {G : DK} {K : PySem.W.Frag} {Γ : List Cell} {Post P : B → Prop} {te ta tb : TE} {t tr : TA} {c c1 c2 : TT} {t1 t2 : TS} {e : En} {A A' : Prop}
theorem bwE.mono (h : bwE G K te Γ P) (k : ∀ b, P b → Post b) : bwE G K te Γ Post := fun W σ H Q E q => h W σ H Q E fun b v H' p => q b v H' (k b p)
theorem bwA.mono {P Post : List B → Prop} (h : bwA G K t Γ P) (k : ∀ b, P b → Post b) : bwA G K t Γ Post := fun W σ H Q E q => h W σ H Q E fun b v H' p => q b v H' (k b p)
theorem bwS.mono {e' : En} (h : bwS G K t1 Γ e) (n : ∀ g, e.N g → e'.N g) (r : ∀ b, e.R b → e'.R b) (bk : ∀ g, e.Bk g → e'.Bk g) (ct : ∀ g, e.Ct g → e'.Ct g) : bwS G K t1 Γ e' := fun W σ H D E q1 q2 q3 q4 => h W σ H D E (fun g s h z => q1 g s h (n g z)) (fun b v h z => q2 b v h (r b z)) (fun g s h z => q3 g s h (bk g z)) (fun g s h z => q4 g s h (ct g z))
/-- the body of a def -/
theorem bodyC {Z : AS} {o : Sr} {bs : List B} {R : B → Prop} {vs : List V} {H : Hp} {Q : VK} (hU : G.U → ∀ p, ¬ o.L p) (hD : ∀ st cl, o.s = some (st, cl) → G.D H st cl ∧ Z st ∧ ¬ Z cl) (hz : ∀ p, Z p → H p ≠ none) (hR : Rps K Z o H bs vs) (hw : G.wok H Z o)
    (q : ∀ (b : B) (v : V) (H' : Hp), R b → Kp o H H' → (∀ st cl, o.s = some (st, cl) → G.D H' st cl) → Rp K Z o H' b v → Q v H') (N : List Str) {ts : TS}
    (k : bwS G K ts (bs.map Cell.sh ++ List.replicate (N.length - bs.length) .no) ⟨fun _ => R .non, R, fun _ => False, fun _ => False⟩) : ts { nx := fun _ H' => Q .non H', rt := Q } (L2.start N vs) H := by
  have hl := rps_len hR
  have gl : ∀ {i : Nat} {c : Cell}, (bs.map Cell.sh ++ List.replicate (N.length - bs.length) Cell.no)[i]? = some c → c ≠ .no → ∃ b, bs[i]? = some b ∧ c = .sh b := fun {i c} h1 h2 => by
    by_cases hi : i < bs.length
    · rw [List.getElem?_append_left (by rw [List.length_map]; exact hi), List.getElem?_map] at h1
      rw [List.getElem?_eq_getElem hi] at h1 ⊢
      exact ⟨_, rfl, (Option.some.inj h1).symm⟩
    · rw [List.getElem?_append_right (by rw [List.length_map]; omega), List.getElem?_replicate] at h1
      split at h1
      · exact absurd (Option.some.inj h1).symm h2
      · cases h1
  have noO : ∀ p, ¬ ownA (bs.map Cell.sh ++ List.replicate (N.length - bs.length) .no) (L2.start N vs) p := fun p ⟨i, b, h1, _⟩ => by
    obtain ⟨_, _, z⟩ := gl h1 (fun z => nomatch z)
    cases z
  have zz : ∀ p, ZZ ⟨H, Z, o, [], [], H, Z⟩ (bs.map Cell.sh ++ List.replicate (N.length - bs.length) .no) (L2.start N vs) p → Z p := fun p z => z.elim id fun z => absurd z (noO p)
  have E0 : Env G K ⟨H, Z, o, [], [], H, Z⟩ (bs.map Cell.sh ++ List.replicate (N.length - bs.length) .no) (L2.start N vs) H := by
    refine ⟨?_, fun st cl e => (hD st cl e).1, fun st cl e => ⟨(hD st cl e).2.1, fun z => (hD st cl e).2.2 (zz _ z)⟩, Kp.refl, hz, fun b v hb => (List.not_mem_nil hb).elim, fun i b hb => ?_, fun i b hb => ?_, fun i j b c p h1 _ _ _ => ?_, hU, hw, Kp.refl, fun p z => ⟨z, hz p z⟩, fun a u h => (List.not_mem_nil h).elim⟩
    · unfold L2.start
      rw [List.length_append, List.length_append, List.length_map, List.length_map, List.length_replicate, List.length_replicate, hl]
    · obtain ⟨b', h1, h2⟩ := gl hb (fun z => nomatch z)
      cases h2
      obtain ⟨v, h3, h4⟩ := rps_at hR h1
      refine ⟨v, ?_, h4.less zz⟩
      unfold L2.start
      rw [List.getElem?_append_left (by rw [List.length_map]; exact (List.getElem?_eq_some_iff.mp h3).1), List.getElem?_map, h3]
      rfl
    · obtain ⟨_, _, z⟩ := gl hb (fun z => nomatch z)
      cases z
    · obtain ⟨_, _, z⟩ := gl h1 (fun z => nomatch z)
      cases z
  exact k _ _ H _ E0 (fun Γ' σ' H' r E' => q .non .non H' r E'.kp E'.dok (rp_non.mpr rfl)) (fun b v H' r f => q b v H' r f.1 f.2.1 f.2.2) (fun _ _ _ f _ => f.elim) (fun _ _ _ f _ => f.elim)
theorem body {Wp : List B → (B → Prop) → Prop} {vs : List V} {H : Hp} {Q : VK} {E : XK} (h : SpB G K Wp vs H Q E) (N : List Str) {ts : TS}
    (k : ∀ bs R, Wp bs R → bs.length = vs.length → bwS G K ts (bs.map Cell.sh ++ List.replicate (N.length - bs.length) .no) ⟨fun _ => R .non, R, fun _ => False, fun _ => False⟩) (hw : ∀ H Z o, G.wok H Z o := by intros; trivial) : ts { nx := fun _ H' => Q .non H', rt := Q } (L2.start N vs) H := by
  obtain ⟨Z, o, bs, R, hU, hD, hz, hR, hW, q⟩ := h
  exact bodyC hU hD hz hR (hw _ _ _) q N (k bs R hW (rps_len hR))
theorem spLen {Wp : List B → (B → Prop) → Prop} {n : Nat} (hn : ∀ bs R, Wp bs R → bs.length = n) {vs : List V} {H : Hp} {Q : VK} {E : XK} (h : SpB G K Wp vs H Q E) : vs.length = n := by
  obtain ⟨Z, o, bs, R, _, _, _, hR, hW, _⟩ := h
  rw [← rps_len hR]
  exact hn _ _ hW
/-! ### expressions -/
theorem var {i : Nat} {b : B} (h : Γ[i]? = some (.sh b)) (q : Post b) : bwE G K (tVar i) Γ Post := fun W σ H Q E k => by
  obtain ⟨v, h1, h2⟩ := E.sh i b h
  exact ⟨v, h1, k b v H q Kp.refl E h2⟩
theorem cRaw {v : V} (q : Post (.raw v)) : bwE G K (tC v) Γ Post := fun W σ H Q E k => k _ v H q Kp.refl E (rp_raw.mpr rfl)
theorem cInt {i : Int} (q : Post (.int i)) : bwE G K (tC (.int i)) Γ Post := fun W σ H Q E k => k _ _ H q Kp.refl E (rp_int.mpr rfl)
theorem cStr {x : Str} (q : Post (.str x)) : bwE G K (tC (.str x)) Γ Post := fun W σ H Q E k => k _ _ H q Kp.refl E (rp_str.mpr rfl)
theorem cBl {b : Bool} (q : Post (.bl b)) : bwE G K (tC (.bl b)) Γ Post := fun W σ H Q E k => k _ _ H q Kp.refl E (rp_bl.mpr rfl)
theorem cNon (q : Post .non) : bwE G K (tC .non) Γ Post := fun W σ H Q E k => k _ _ H q Kp.refl E (rp_non.mpr rfl)
theorem nil {Post : List B → Prop} (q : Post []) : bwA G K tNil Γ Post := fun W σ H Q E k => k [] [] H q Kp.refl E (rps_nil.mpr rfl)
theorem cons {Post : List B → Prop} (h : bwE G K ta Γ fun x => bwA G K tr Γ fun xs => Post (x :: xs)) : bwA G K (tCons ta tr) Γ Post := fun W σ H Q E k =>
  h W σ H _ E fun x v H1 p1 k1 E1 r1 => p1 W σ H1 _ E1 fun xs vs H2 p2 k2 E2 r2 => k (x :: xs) (v :: vs) H2 p2 (k1.trans k2) E2 (rps_cons.mpr ⟨v, vs, rfl, r1.kp E1.zs k2, r2⟩)
theorem tup (h : bwA G K t Γ fun xs => xs.length ≤ sizeLine ∧ Post (.tup xs)) : bwE G K (tTup t) Γ Post := fun W σ H Q E k =>
  RD.tup (h W σ H _ E fun xs vs H1 p k1 E1 r => ⟨by rw [← rps_len r]; exact p.1, fun q hq => k _ _ _ p.2 (k1.nw hq) (E1.nw hq) (rp_tup.mpr ⟨q, vs, rfl, .inl ⟨upd_same, (E1.fresh hq).2.1⟩, r.kp E1.zs (Kp.refl.nw hq)⟩)⟩)
theorem lstN (h : bwA G K t Γ fun xs => xs.length ≤ sizeLine ∧ Post (.lst xs)) : bwN G K (tLst t) Γ Post := fun W σ H Q E k =>
  RD.lst (h W σ H _ E fun xs vs H1 p k1 E1 r => ⟨by rw [← rps_len r]; exact p.1, fun q hq => by
    obtain ⟨f1, f2, f3⟩ := E1.fresh hq
    refine k _ q _ p.2 (k1.nw hq) (E1.plus hq) f1 f3 f2 ⟨vs, upd_same, ?_⟩
    exact (r.mv fun b n hb z => (zz_plus.mp z).elim n fun e => hb (by rw [e]; exact hq)).kp (fun st z => zz_plus.mpr (.inl (E1.zs st z))) (Kp.refl.nw hq)⟩)
theorem ofN (h : bwN G K te Γ Post) : bwE G K te Γ Post := fun W σ H Q E k =>
  h W σ H Q E fun b p H' pb k1 E1 f1 f3 f2 ow => k b (.ref p) H' pb k1 (E1.minus f1 f3) ((ow.mv fun b n _ z => n (zz_plus.mpr (.inl z))).rp f2)
theorem lst (h : bwA G K t Γ fun xs => xs.length ≤ sizeLine ∧ Post (.lst xs)) : bwE G K (tLst t) Γ Post := ofN (lstN h)
theorem op {r : R2} (h : bwE G K ta Γ fun x => bwE G K tb Γ fun y => bwR2 G K r x y Post) : bwE G K (tOp r ta tb) Γ Post := fun W σ H Q E k =>
  RD.op (h W σ H _ E fun x v H1 p1 k1 E1 r1 => p1 W σ H1 _ E1 fun y u H2 p2 k2 E2 r2 => p2 W Γ σ H2 v u Q E2 (r1.kp E1.zs k2) r2 fun b z H3 pb k3 => k b z H3 pb (k1.trans (k2.trans k3)))
theorem un {r : V → Hp → VK → Prop} (h : bwE G K ta Γ fun x => bwR1 G K r x Post) : bwE G K (tUn r ta) Γ Post := fun W σ H Q E k =>
  RD.un (h W σ H _ E fun x v H1 p1 k1 E1 r1 => p1 W Γ σ H1 v Q E1 r1 fun b z H3 pb k3 => k b z H3 pb (k1.trans k3))
theorem thn_ {r : V → Hp → VK → Prop} (h : bwE G K ta Γ fun x => bwR1 G K r x Post) : bwE G K (tThen ta r) Γ Post := fun W σ H Q E k =>
  RD.then_ (h W σ H _ E fun x v H1 p1 k1 E1 r1 => p1 W Γ σ H1 v Q E1 r1 fun b z H3 pb k3 => k b z H3 pb (k1.trans k3))
theorem cb {r : List V → Hp → VK → Prop} (h : bwA G K t Γ fun xs => bwRA G K r xs Post) : bwE G K (tCB r t) Γ Post := fun W σ H Q E k =>
  RD.cb (h W σ H _ E fun xs vs H1 p1 k1 E1 r1 => p1 W Γ σ H1 vs Q E1 r1 fun b z H3 pb k3 => k b z H3 pb (k1.trans k3))
theorem call {Wp : List B → (B → Prop) → Prop} {E : XK} (h : bwA G K t Γ fun bs => Wp bs Post) : bwE G K (tCall (SpB G K Wp) [] E t) Γ Post := fun W σ H Q Ev k =>
  RD.call (h W σ H _ Ev fun bs vs H1 p1 k1 E1 r1 => ⟨ZZ W Γ σ, W.o, bs, Post, E1.lk, fun st cl e => ⟨E1.dok st cl e, .inl (E1.src st cl e).1, (E1.src st cl e).2⟩, E1.zz, r1, p1, fun b v H2 pb k2 d2 r2 => k b v H2 pb (k1.trans k2) (E1.step k2 d2) r2⟩)
/-- .. of a def that minds no lock -/
theorem callLo {Wp : List B → (B → Prop) → Prop} {E : XK} (h : bwA G K t Γ fun bs => Wp bs Post) : bwE G K (tCall (SpB G.lo K Wp) [] E t) Γ Post := fun W σ H Q Ev k =>
  RD.call (h W σ H _ Ev fun bs vs H1 p1 k1 E1 r1 => ⟨ZZ W Γ σ, W.o, bs, Post, fun z => z.elim, fun st cl e => ⟨E1.dok st cl e, .inl (E1.src st cl e).1, (E1.src st cl e).2⟩, E1.zz, r1, p1, fun b v H2 pb k2 d2 r2 => k b v H2 pb (k1.trans k2) (E1.step k2 d2) r2⟩)
theorem ifE (h : bwT G K c Γ fun b => if b = true then bwE G K ta Γ Post else bwE G K tb Γ Post) : bwE G K (tIf c ta tb) Γ Post := fun W σ H Q E k =>
  RD.if_ (h W σ H _ E fun b H1 p k1 E1 => by
    cases b with
    | true =>
      rw [if_pos rfl] at p ⊢
      exact p W σ H1 Q E1 fun b v H2 pb k2 => k b v H2 pb (k1.trans k2)
    | false =>
      rw [if_neg Bool.false_ne_true] at p ⊢
      exact p W σ H1 Q E1 fun b v H2 pb k2 => k b v H2 pb (k1.trans k2))
theorem andV (h : bwE G K ta Γ fun x => ∃ c, x = .bl c ∧ if c = true then bwE G K tb Γ Post else Post (.bl false)) : bwE G K (tAndV ta tb) Γ Post := fun W σ H Q E k =>
  RD.andV (h W σ H _ E fun x v H1 p k1 E1 r1 => by
    obtain ⟨c, rfl, p⟩ := p
    refine ⟨c, rp_bl.mp r1, ?_⟩
    cases c with
    | true =>
      rw [if_pos rfl] at p ⊢
      exact p W σ H1 Q E1 fun b v H2 pb k2 => k b v H2 pb (k1.trans k2)
    | false =>
      rw [if_neg Bool.false_ne_true] at p ⊢
      exact k _ _ H1 p k1 E1 (rp_bl.mpr rfl))
theorem orV (h : bwE G K ta Γ fun x => ∃ c, x = .bl c ∧ if c = true then Post (.bl true) else bwE G K tb Γ Post) : bwE G K (tOrV ta tb) Γ Post := fun W σ H Q E k =>
  RD.orV (h W σ H _ E fun x v H1 p k1 E1 r1 => by
    obtain ⟨c, rfl, p⟩ := p
    refine ⟨c, rp_bl.mp r1, ?_⟩
    cases c with
    | true =>
      rw [if_pos rfl] at p ⊢
      exact k _ _ H1 p k1 E1 (rp_bl.mpr rfl)
    | false =>
      rw [if_neg Bool.false_ne_true] at p ⊢
      exact p W σ H1 Q E1 fun b v H2 pb k2 => k b v H2 pb (k1.trans k2))
theorem notV (h : bwE G K ta Γ fun x => ∃ c, x = .bl c ∧ Post (.bl (!c))) : bwE G K (tNotV ta) Γ Post := fun W σ H Q E k =>
  RD.notV (h W σ H _ E fun x v H1 p k1 E1 r1 => by
    obtain ⟨c, rfl, p⟩ := p
    exact ⟨c, rp_bl.mp r1, k _ _ H1 p k1 E1 (rp_bl.mpr rfl)⟩)
theorem chain {r r' : R2} {tc : TE} (h : bwE G K ta Γ fun x => bwE G K tb Γ fun y => bwR2 G K r x y fun z => ∃ k, z = .bl k ∧ if k = true then bwE G K tc Γ fun u => bwR2 G K r' y u Post else Post (.bl false)) : bwE G K (tChain r r' ta tb tc) Γ Post := fun W σ H Q E k =>
  RD.chain (h W σ H _ E fun x v H1 p1 k1 E1 r1 => p1 W σ H1 _ E1 fun y u H2 p2 k2 E2 r2 => p2 W Γ σ H2 v u _ E2 (r1.kp E1.zs k2) r2 fun b z H3 pb k3 E3 r3 => by
    obtain ⟨c, rfl, pb⟩ := pb
    refine ⟨c, rp_bl.mp r3, ?_⟩
    cases c with
    | true =>
      rw [if_pos rfl] at pb ⊢
      exact pb W σ H3 _ E3 fun u' v' H4 p4 k4 E4 r4 => p4 W Γ σ H4 u v' Q E4 ((r2.kp E2.zs k3).kp E3.zs k4) r4 fun b z H5 pb k5 => k b z H5 pb (k1.trans (k2.trans (k3.trans (k4.trans k5))))
    | false =>
      rw [if_neg Bool.false_ne_true] at pb ⊢
      exact k _ _ H3 pb (k1.trans (k2.trans k3)) E3 (rp_bl.mpr rfl))
/-! ### tests -/
theorem tB_ {PB : Bool → Prop} (h : bwE G K ta Γ fun x => ∃ c, x = .bl c ∧ PB c) : bwT G K (tB ta) Γ PB := fun W σ H Q E k =>
  RD.B_ (h W σ H _ E fun x v H1 p k1 E1 r1 => by
    obtain ⟨c, rfl, p⟩ := p
    exact ⟨c, rp_bl.mp r1, k c H1 p k1 E1⟩)
theorem test {PB : Bool → Prop} (h : bwE G K ta Γ fun x => ∃ c, x = .bl c ∧ PB c) : bwT G K (tTest ta) Γ PB := tB_ h
theorem and_ {PB : Bool → Prop} (h : bwT G K c1 Γ fun b => if b = true then bwT G K c2 Γ PB else PB false) : bwT G K (tAnd c1 c2) Γ PB := fun W σ H Q E k =>
  RD.and_ (h W σ H _ E fun b H1 p k1 E1 => by
    cases b with
    | true =>
      rw [if_pos rfl] at p ⊢
      exact p W σ H1 Q E1 fun b H2 pb k2 => k b H2 pb (k1.trans k2)
    | false =>
      rw [if_neg Bool.false_ne_true] at p ⊢
      exact k _ H1 p k1 E1)
theorem or_ {PB : Bool → Prop} (h : bwT G K c1 Γ fun b => if b = true then PB true else bwT G K c2 Γ PB) : bwT G K (tOr c1 c2) Γ PB := fun W σ H Q E k =>
  RD.or_ (h W σ H _ E fun b H1 p k1 E1 => by
    cases b with
    | true =>
      rw [if_pos rfl] at p ⊢
      exact k _ H1 p k1 E1
    | false =>
      rw [if_neg Bool.false_ne_true] at p ⊢
      exact p W σ H1 Q E1 fun b H2 pb k2 => k b H2 pb (k1.trans k2))
theorem not_ {PB : Bool → Prop} (h : bwT G K c1 Γ fun b => PB (!b)) : bwT G K (tNot c1) Γ PB := fun W σ H Q E k => RD.not_ (h W σ H _ E fun b H1 p => k _ H1 p)
theorem yes {PB : Bool → Prop} (h : PB true) : bwT G K tYes Γ PB := fun W σ H Q E k => RD.yes (k true H h Kp.refl E)
/-! ### statements -/
theorem seq (h : bwS G K t1 Γ { e with N := fun g => bwS G K t2 g e }) : bwS G K (tSeq t1 t2) Γ e := fun W σ H D E q1 q2 q3 q4 =>
  RD.seq (h W σ H ⟨t2 D, D.rt, D.bk, D.ct⟩ E (fun g s h' z E' => z W s h' D E' q1 q2 q3 q4) q2 q3 q4)
theorem next (h : e.N Γ) : bwS G K tNext Γ e := fun W σ H D E q1 q2 q3 q4 => q1 Γ σ H h E
theorem brk (h : e.Bk Γ) : bwS G K tBreak Γ e := fun W σ H D E q1 q2 q3 q4 => q3 Γ σ H h E
theorem cont (h : e.Ct Γ) : bwS G K tCont Γ e := fun W σ H D E q1 q2 q3 q4 => q4 Γ σ H h E
theorem ret (h : bwE G K te Γ e.R) : bwS G K (tRet te) Γ e := fun W σ H D E q1 q2 q3 q4 =>
  RD.ret (h W σ H _ E fun b v H1 p k1 E1 r1 => q2 b v H1 p ⟨E1.kp, E1.dok, r1.less fun p z => .inl z⟩)
theorem retN (h : e.R .non) : bwS G K tRetN Γ e := fun W σ H D E q1 q2 q3 q4 => RD.retN (q2 .non .non H h ⟨E.kp, E.dok, rp_non.mpr rfl⟩)
theorem asg {i : Nat} (h : bwE G K te Γ fun b => e.N (Γ.set i (.sh b))) : bwS G K (tAsg te (gName i)) Γ e := fun W σ H D E q1 q2 q3 q4 =>
  RD.asg (h W σ H _ E fun b v H1 p k1 E1 r1 => RD.gname (q1 _ _ H1 p (E1.set r1)))
theorem asgN {i : Nat} (h : bwN G K te Γ fun b => e.N (Γ.set i (.ow b))) : bwS G K (tAsg te (gName i)) Γ e := fun W σ H D E q1 q2 q3 q4 =>
  RD.asg (h W σ H _ E fun b p H1 pb k1 E1 f1 f3 f2 ow => RD.gname (q1 _ _ H1 pb (E1.own f1 f3 f2 ow)))
theorem dropE (h : bwE G K te Γ fun _ => e.N Γ) : bwS G K (tDrop te) Γ e := fun W σ H D E q1 q2 q3 q4 =>
  RD.drop (h W σ H _ E fun b v H1 p k1 E1 r1 => q1 Γ σ H1 p E1)
theorem ifS (h : bwT G K c Γ fun b => if b = true then bwS G K t1 Γ e else bwS G K t2 Γ e) : bwS G K (tIfS c t1 t2) Γ e := fun W σ H D E q1 q2 q3 q4 =>
  RD.ifS (h W σ H _ E fun b H1 p k1 E1 => by
    cases b with
    | true =>
      rw [if_pos rfl] at p ⊢
      exact p W σ H1 D E1 q1 q2 q3 q4
    | false =>
      rw [if_neg Bool.false_ne_true] at p ⊢
      exact p W σ H1 D E1 q1 q2 q3 q4)
/-- an own list or dict is read from here on -/
theorem frz (i : Nat) {b : B} (h : Γ[i]? = some (.ow b)) (k : bwS G K t1 (Γ.set i (.sh b)) e) : bwS G K t1 Γ e := fun W σ H D E q1 q2 q3 q4 => k W σ H D (E.freeze h) q1 q2 q3 q4
/-- an own list is returned -/
theorem retO {i : Nat} {b : B} (h : Γ[i]? = some (.ow b)) (q : e.R b) : bwS G K (tRet (tVar i)) Γ e := frz i h (ret (var (b := b) (List.getElem?_set_self (List.getElem?_eq_some_iff.mp h).1) q))
theorem never {ts : TS} (h : False) : bwS G K ts Γ e := h.elim
/-- two ways that meet -/
theorem join (Pd : List Cell → Prop) (h : bwS G K t1 Γ { e with N := Pd }) (k : ∀ g, Pd g → e.N g) : bwS G K t1 Γ e := h.mono k (fun _ z => z) (fun _ z => z) (fun _ z => z)
theorem append {i : Nat} {ds : List B} (h : Γ[i]? = some (.ow (.lst ds))) (q : bwE G K te Γ fun b => ds.length < sizeLine ∧ e.N (Γ.set i (.ow (.lst (ds ++ [b]))))) : bwS G K (tDrop (tBM K "list" rAppend (tVar i) (tCons te tNil))) Γ e := fun W σ H D E q1 q2 q3 q4 => by
  obtain ⟨p, h1, h2, h3, vs, h4, h5⟩ := E.ow i _ h
  refine RD.drop (RD.bm ⟨.ref p, h1, .inl ⟨rfl, _, SqL.of h4⟩, RD.cons (q W σ H _ E fun b v H1 pb k1 E1 r1 => RD.nil ?_)⟩)
  have hp1 := k1 p _ (E.noS h h1) h4
  refine ⟨p, vs, v, rfl, rfl, hp1, by rw [← rps_len h5]; exact pb.1, q1 _ _ _ pb.2 (E1.mut h h1 ⟨vs ++ [v], upd_same, ?_⟩)⟩
  have off : ∀ b u, (¬ ZZ W Γ σ b ∨ isS W.o b) → ¬ ZZ W Γ σ b → H1 b = some u → upd H1 p (.lst (vs ++ [v])) b = some u := fun b u _ n hb => by
    rw [upd_ne fun e => n (.inr ⟨i, _, h, by rw [e]; exact h1⟩)]
    exact hb
  exact rps_app ((h5.kp E.zs k1).off off) (rps_one (r1.off off))
end
end BV

set_option Elab.async false
set_option linter.all false
set_option maxRecDepth 100000
set_option maxHeartbeats 4000000
/-! by value: what a loop walks, loops, comprehensions -/
namespace RD
open PySem PySem.Spec PyProof.Rows L2 G0
theorem istr' {te : TE} {σ : L2.St} {H : Hp} {R : It → Hp → Prop} (h : te σ H fun x H1 => ∃ z, x = .str z ∧ R (Its z) H1) : iStr te σ H R := h
theorem irng1 {ta : TA} {σ : L2.St} {H : Hp} {R : It → Hp → Prop} (h : ta σ H fun vs H1 => ∃ j : Int, vs = [.int j] ∧ -(2 ^ 62) ≤ j ∧ j < 2 ^ 62 ∧ R (Itr 0 j.toNat) H1) : iRng1 ta σ H R := h
theorem irng2 {ta : TA} {σ : L2.St} {H : Hp} {R : It → Hp → Prop} (h : ta σ H fun vs H1 => ∃ i j : Int, vs = [.int i, .int j] ∧ (-(2 ^ 62) ≤ i ∧ i < 2 ^ 62 ∧ -(2 ^ 62) ≤ j ∧ j < 2 ^ 62) ∧ R (Itr i (j - i).toNat) H1) : iRng2 ta σ H R := h
theorem izip' {K : PySem.W.Frag} {t : TA} {σ : L2.St} {H : Hp} {R : It → Hp → Prop} (h : t σ H fun vs H1 => ∃ a b xs ys, vs = [.ref a, .ref b] ∧ ((SqL K H1 a xs ∧ SqL K H1 b ys ∧ R (Itz K a b) H1) ∨ (SqT K H1 a xs ∧ SqT K H1 b ys ∧ R (RZ.ItzT K a b) H1))) : RZ.iZipA K t σ H R := h
theorem ienum {K : PySem.W.Frag} {t : TA} {σ : L2.St} {H : Hp} {R : It → Hp → Prop} (h : t σ H fun vs H1 => ∃ a xs, vs = [.ref a] ∧ SqL K H1 a xs ∧ R (Ite K a) H1) : iEnum K t σ H R := h
end RD
namespace BV
open PySem PySem.Spec PyProof.Rows L2 G0
/-- these items come of the walk J, as long as these values and objects stay -/
structure WkI (K : PySem.W.Frag) (o : Sr) (J : It) (tm : List (B × V)) (t2 : List (Addr × HO)) (ds : List B) : Prop where
  go : ∀ (Z : AS) (H : Hp) (i : Nat), (∀ b v, (b, v) ∈ tm → Rp K Z o H b v) → (∀ a u, (a, u) ∈ t2 → H a = some u) → i < ds.length → J.go i H
  stop : ∀ (Z : AS) (H : Hp) (i : Nat), (∀ b v, (b, v) ∈ tm → Rp K Z o H b v) → (∀ a u, (a, u) ∈ t2 → H a = some u) → ds.length ≤ i → J.stop i H
  yld : ∀ (Z : AS) (H : Hp) (i : Nat) (x : V) (H' : Hp), (∀ b v, (b, v) ∈ tm → Rp K Z o H b v) → (∀ a u, (a, u) ∈ t2 → H a = some u) → (∀ p, Z p → H p ≠ none) → J.yld i H x H' → i < ds.length → Same H H' ∧ ∃ d, ds[i]? = some d ∧ Rp K Z o H' d x
section
variable (G : DK) (K : PySem.W.Frag)
def bwI (wi : TI) (Γ : List Cell) (Post : List B → Prop) : Prop := ∀ (W : Wd) (σ : L2.St) (H : Hp) (R : It → Hp → Prop), Env G K W Γ σ H →
  (∀ (ds : List B) (tm : List (B × V)) (t2 : List (Addr × HO)) (J : It) (H' : Hp), Post ds → Kp W.o H H' → Env G K W Γ σ H' → (∀ b v, (b, v) ∈ tm → Rp K (ZZ W Γ σ) W.o H' b v) → (∀ a u, (a, u) ∈ t2 → H' a = some u ∧ ¬ ZZ W Γ σ a) → WkI K W.o J tm t2 ds → R J H') → wi σ H R
def bwG (g : TG) (d : B) (Γ : List Cell) (P : List Cell → Prop) : Prop := ∀ (W : Wd) (σ : L2.St) (H : Hp) (v : V) (QS : L2.St → Hp → Prop), Env G K W Γ σ H → Rp K (ZZ W Γ σ) W.o H d v →
  (∀ (Γ' : List Cell) (σ' : L2.St), P Γ' → Env G K W Γ' σ' H → QS σ' H) → g v σ H QS
def bwGs (g : TGs) (ds : List B) (Γ : List Cell) (P : List Cell → Prop) : Prop := ∀ (W : Wd) (σ : L2.St) (H : Hp) (vs : List V) (QS : L2.St → Hp → Prop), Env G K W Γ σ H → Rps K (ZZ W Γ σ) W.o H ds vs →
  (∀ (Γ' : List Cell) (σ' : L2.St), P Γ' → Env G K W Γ' σ' H → QS σ' H) → g vs σ H QS
/-- .. within a comprehension -/
def bwGv (ws : List Nat) (g : TG) (d : B) (Γ : List Cell) (P : List Cell → Prop) : Prop := ∀ (W : Wd) (σ : L2.St) (H : Hp) (v : V) (QS : L2.St → Hp → Prop), Env G K W Γ σ H → Rp K (ZZ W Γ σ) W.o H d v →
  (∀ (Γ' : List Cell) (σ' : L2.St), P Γ' → wipe σ' ws = wipe σ ws → Env G K W Γ' σ' H → QS σ' H) → g v σ H QS
def bwGvs (ws : List Nat) (g : TGs) (ds : List B) (Γ : List Cell) (P : List Cell → Prop) : Prop := ∀ (W : Wd) (σ : L2.St) (H : Hp) (vs : List V) (QS : L2.St → Hp → Prop), Env G K W Γ σ H → Rps K (ZZ W Γ σ) W.o H ds vs →
  (∀ (Γ' : List Cell) (σ' : L2.St), P Γ' → wipe σ' ws = wipe σ ws → Env G K W Γ' σ' H → QS σ' H) → g vs σ H QS
end
def hideC : Cell → Cell
  | .ow _ => .no
  | c => c
/-- what a comprehension sees of the names -/
def wipeC (Γ : List Cell) : List Nat → List Cell
  | [] => Γ.map hideC
  | v :: vs => (wipeC Γ vs).set v .no
theorem wipe_get {σ : L2.St} {i : Nat} : ∀ {ws : List Nat}, i ∉ ws → (wipe σ ws)[i]? = σ[i]?
  | [], _ => rfl
  | w :: ws, h => by
    rw [List.mem_cons, not_or] at h
    show ((wipe σ ws).set w none)[i]? = _
    rw [List.getElem?_set_ne (fun e => h.1 e.symm)]
    exact wipe_get h.2
theorem wipeC_get {Γ : List Cell} {i : Nat} {c : Cell} : ∀ {ws : List Nat}, (wipeC Γ ws)[i]? = some c → c ≠ .no → i ∉ ws ∧ ∃ c', Γ[i]? = some c' ∧ hideC c' = c
  | [], h, hc => by
    have h' : (Γ.map hideC)[i]? = some c := h
    rw [List.getElem?_map] at h'
    cases e : Γ[i]? with
    | none => rw [e] at h'; cases h'
    | some c' =>
      rw [e] at h'
      exact ⟨List.not_mem_nil, c', rfl, Option.some.inj h'⟩
  | w :: ws, h, hc => by
    have h' : ((wipeC Γ ws).set w .no)[i]? = some c := h
    by_cases hw : w = i
    · subst hw
      rw [List.getElem?_set] at h'
      simp at h'
      exact absurd h'.2.symm hc
    · rw [List.getElem?_set_ne hw] at h'
      obtain ⟨a, b⟩ := wipeC_get h' hc
      exact ⟨fun z => (List.mem_cons.mp z).elim (fun e => hw e.symm) a, b⟩
theorem wipeC_len {Γ : List Cell} : ∀ {ws : List Nat}, (wipeC Γ ws).length = Γ.length
  | [] => List.length_map ..
  | w :: ws => by
    show ((wipeC Γ ws).set w .no).length = _
    rw [List.length_set, wipeC_len]
theorem wipe_in {σ : L2.St} {j : Nat} : ∀ {ws : List Nat}, j ∈ ws → j < σ.length → (wipe σ ws)[j]? = some none
  | [], h, _ => (List.not_mem_nil h).elim
  | w :: ws, h, hj => by
    show ((wipe σ ws).set w none)[j]? = _
    by_cases e : w = j
    · subst e
      rw [List.getElem?_set_self (by rw [wipe_length]; exact hj)]
    · rw [List.getElem?_set_ne e]
      exact wipe_in ((List.mem_cons.mp h).elim (fun z => absurd z.symm e) id) hj
theorem wipe_idem {σ : L2.St} {ws : List Nat} : wipe (wipe σ ws) ws = wipe σ ws := by
  refine List.ext_getElem? fun j => ?_
  by_cases hj : j ∈ ws
  · by_cases hl : j < σ.length
    · rw [wipe_in hj (by rw [wipe_length]; exact hl), wipe_in hj hl]
    · rw [List.getElem?_eq_none (by rw [wipe_length, wipe_length]; omega), List.getElem?_eq_none (by rw [wipe_length]; omega)]
  · rw [wipe_get hj]
theorem wipe_set {σ : L2.St} {i : Nat} {x : Option V} : ∀ {ws : List Nat}, i ∈ ws → wipe (σ.set i x) ws = wipe σ ws
  | [], h => (List.not_mem_nil h).elim
  | w :: ws, h => by
    show (wipe (σ.set i x) ws).set w none = (wipe σ ws).set w none
    rcases List.mem_cons.mp h with e | h
    · subst e
      by_cases hi : i ∈ ws
      · rw [wipe_set hi]
      · have : wipe (σ.set i x) ws = (wipe σ ws).set i x := by
          clear h
          induction ws with
          | nil => rfl
          | cons w ws ih =>
            rw [List.mem_cons, not_or] at hi
            show (wipe (σ.set i x) ws).set w none = ((wipe σ ws).set w none).set i x
            rw [ih hi.2, List.set_comm _ _ hi.1]
        rw [this, set_set]
    · rw [wipe_set h]
section
variable {G : DK} {K : PySem.W.Frag} {W : Wd} {Γ : List Cell} {σ : L2.St} {H H' H1 : Hp} {Post P : B → Prop} {te ta tb : TE} {t tr : TA} {c c1 c2 tt : TT} {t1 t2 : TS} {e : En} {wi : TI} {g : TG} {gs : TGs} {Pg : List Cell → Prop} {d : B} {ds : List B} {ws : List Nat}
/-! ### targets -/
theorem gname {i : Nat} (h : Pg (Γ.set i (.sh d))) : bwG G K (gName i) d Γ Pg := fun W σ H v QS E r q => RD.gname (q _ _ h (E.set r))
theorem gnil (h : Pg Γ) : bwGs G K gNil [] Γ Pg := fun W σ H vs QS E r q => by
  rw [rps_nil.mp r]
  exact RD.gnil (q _ _ h E)
theorem gcons (h : bwG G K g d Γ fun g' => bwGs G K gs ds g' Pg) : bwGs G K (gCons g gs) (d :: ds) Γ Pg := fun W σ H vs QS E r q => by
  obtain ⟨v, rest, rfl, r1, r2⟩ := rps_cons.mp r
  have hk : ∀ b u, (b, u) ∈ ds.zip rest → Rp K (ZZ W Γ σ) W.o H b u := fun b u hb => by
    obtain ⟨i, hi⟩ := List.getElem?_of_mem hb
    obtain ⟨a1, a2⟩ := List.getElem?_zip_eq_some.mp hi
    obtain ⟨u', b1, b2⟩ := rps_at r2 a1
    rw [a2] at b1
    obtain rfl : u = u' := Option.some.inj b1
    exact b2
  refine RD.gcons (h (W.keep (ds.zip rest)) σ H v _ (E.keep hk) r1 fun Γ' σ' p E' => p W σ' H rest QS E'.drop ?_ q)
  have hl := rps_len r2
  have all : ∀ (l : List B) (m : List V), l.length = m.length → (∀ b u, (b, u) ∈ l.zip m → Rp K (ZZ W Γ' σ') W.o H b u) → Rps K (ZZ W Γ' σ') W.o H l m := by
    intro l
    induction l with
    | nil =>
      intro m hm _
      rw [List.eq_nil_of_length_eq_zero hm.symm]
      exact rps_nil.mpr rfl
    | cons a l ih =>
      intro m hm hh
      cases m with
      | nil => cases hm
      | cons u m => exact rps_cons.mpr ⟨u, m, rfl, hh a u (List.mem_cons_self ..), ih m (Nat.succ.inj hm) fun b v hb => hh b v (List.mem_cons_of_mem _ hb)⟩
  exact all ds rest hl fun b u hb => E'.tmp b u (List.mem_append_left _ hb)
theorem gtup {n : Nat} (hn : ds.length = n) (h : bwGs G K gs ds Γ Pg) : bwG G K (gTup K n gs) (.tup ds) Γ Pg := fun W σ H v QS E r q => by
  obtain ⟨p, vs, rfl, h1, h2⟩ := rp_tup.mp r
  exact RD.unp h1.sq (by rw [← rps_len h2]; exact hn) (h W σ H vs QS E h2 q)
theorem vname {i : Nat} (hi : i ∈ ws) (h : Pg (Γ.set i (.sh d))) : bwGv G K ws (gName i) d Γ Pg := fun W σ H v QS E r q => RD.gname (q _ _ h (wipe_set hi) (E.set r))
theorem vnil (h : Pg Γ) : bwGvs G K ws gNil [] Γ Pg := fun W σ H vs QS E r q => by
  rw [rps_nil.mp r]
  exact RD.gnil (q _ _ h rfl E)
theorem vcons (h : bwGv G K ws g d Γ fun g' => bwGvs G K ws gs ds g' Pg) : bwGvs G K ws (gCons g gs) (d :: ds) Γ Pg := fun W σ H vs QS E r q => by
  obtain ⟨v, rest, rfl, r1, r2⟩ := rps_cons.mp r
  have hk : ∀ b u, (b, u) ∈ ds.zip rest → Rp K (ZZ W Γ σ) W.o H b u := fun b u hb => by
    obtain ⟨i, hi⟩ := List.getElem?_of_mem hb
    obtain ⟨a1, a2⟩ := List.getElem?_zip_eq_some.mp hi
    obtain ⟨u', b1, b2⟩ := rps_at r2 a1
    rw [a2] at b1
    obtain rfl : u = u' := Option.some.inj b1
    exact b2
  refine RD.gcons (h (W.keep (ds.zip rest)) σ H v _ (E.keep hk) r1 fun Γ' σ' p hw E' => p W σ' H rest QS E'.drop ?_ fun Γ2 σ2 p2 hw2 => q Γ2 σ2 p2 (hw2.trans hw))
  have hl := rps_len r2
  have all : ∀ (l : List B) (m : List V), l.length = m.length → (∀ b u, (b, u) ∈ l.zip m → Rp K (ZZ W Γ' σ') W.o H b u) → Rps K (ZZ W Γ' σ') W.o H l m := by
    intro l
    induction l with
    | nil =>
      intro m hm _
      rw [List.eq_nil_of_length_eq_zero hm.symm]
      exact rps_nil.mpr rfl
    | cons a l ih =>
      intro m hm hh
      cases m with
      | nil => cases hm
      | cons u m => exact rps_cons.mpr ⟨u, m, rfl, hh a u (List.mem_cons_self ..), ih m (Nat.succ.inj hm) fun b v hb => hh b v (List.mem_cons_of_mem _ hb)⟩
  exact all ds rest hl fun b u hb => E'.tmp b u (List.mem_append_left _ hb)
theorem vtup {n : Nat} (hn : ds.length = n) (h : bwGvs G K ws gs ds Γ Pg) : bwGv G K ws (gTup K n gs) (.tup ds) Γ Pg := fun W σ H v QS E r q => by
  obtain ⟨p, vs, rfl, h1, h2⟩ := rp_tup.mp r
  exact RD.unp h1.sq (by rw [← rps_len h2]; exact hn) (h W σ H vs QS E h2 q)
theorem asgG (h : bwE G K te Γ fun b => bwG G K g b Γ e.N) : bwS G K (tAsg te g) Γ e := fun W σ H D E q1 q2 q3 q4 =>
  RD.asg (h W σ H _ E fun b v H1 p k1 E1 r1 => p W σ H1 v _ E1 r1 fun Γ' σ' n E' => q1 _ _ _ n E')
/-! ### what is walked -/
theorem wlist (h : bwE G K te Γ fun b => ∃ ds, b = .lst ds ∧ Pl ds) : bwI G K (iList K te) Γ Pl := fun W σ H R E q =>
  RD.ilist (h W σ H _ E fun b v H1 p k1 E1 r1 => by
    obtain ⟨ds, rfl, p⟩ := p
    obtain ⟨a, vs, rfl, hz, h1, h2⟩ := rp_lst.mp r1
    refine ⟨a, rfl, ⟨vs, SqL.of h1⟩, q ds [(.lst ds, .ref a)] [] _ H1 p k1 E1 (fun b u hb => ?_) (fun _ _ z => (List.not_mem_nil z).elim) ?_⟩
    · rw [List.mem_singleton] at hb
      cases hb
      exact r1
    · have get : ∀ {Z : AS} {H : Hp}, (∀ b v, (b, v) ∈ [(B.lst ds, V.ref a)] → Rp K Z W.o H b v) → ∃ vs, H a = some (.lst vs) ∧ Rps K Z W.o H ds vs := fun hh => by
        obtain ⟨p, vs, e, _, a1, a2⟩ := rp_lst.mp (hh _ _ (List.mem_singleton.mpr rfl))
        cases e
        exact ⟨vs, a1, a2⟩
      refine ⟨fun Z H i hh _ hi => ?_, fun Z H i hh _ hi => ?_, fun Z H i x H' hh _ _ hy hi => ?_⟩
      · obtain ⟨vs, a1, a2⟩ := get hh
        have : i < vs.length := by rw [← rps_len a2]; exact hi
        exact ⟨vs, vs[i], SqL.of a1, List.getElem?_eq_getElem this⟩
      · obtain ⟨vs, a1, a2⟩ := get hh
        exact ⟨vs, SqL.of a1, by rw [← rps_len a2]; exact hi⟩
      · obtain ⟨vs, a1, a2⟩ := get hh
        obtain ⟨rfl, hx⟩ := hy
        obtain ⟨d, b1, b2⟩ := rps_atv a2 (hx vs (SqL.of a1))
        exact ⟨Same.refl _, d, b1, b2⟩)
theorem wtup (h : bwE G K te Γ fun b => ∃ ds, b = .tup ds ∧ Pl ds) : bwI G K (iTup K te) Γ Pl := fun W σ H R E q =>
  RD.itup (h W σ H _ E fun b v H1 p k1 E1 r1 => by
    obtain ⟨ds, rfl, p⟩ := p
    obtain ⟨a, vs, rfl, h1, h2⟩ := rp_tup.mp r1
    refine ⟨a, rfl, ⟨vs, h1.sq⟩, q ds [(.tup ds, .ref a)] [] _ H1 p k1 E1 (fun b u hb => ?_) (fun _ _ z => (List.not_mem_nil z).elim) ?_⟩
    · rw [List.mem_singleton] at hb
      cases hb
      exact r1
    · have get : ∀ {Z : AS} {H : Hp}, (∀ b v, (b, v) ∈ [(B.tup ds, V.ref a)] → Rp K Z W.o H b v) → ∃ vs, SqT K H a vs ∧ Rps K Z W.o H ds vs := fun hh => by
        obtain ⟨p, vs, e, a1, a2⟩ := rp_tup.mp (hh _ _ (List.mem_singleton.mpr rfl))
        cases e
        exact ⟨vs, a1.sq, a2⟩
      refine ⟨fun Z H i hh _ hi => ?_, fun Z H i hh _ hi => ?_, fun Z H i x H' hh _ _ hy hi => ?_⟩
      · obtain ⟨vs, a1, a2⟩ := get hh
        have : i < vs.length := by rw [← rps_len a2]; exact hi
        exact ⟨vs, vs[i], a1, List.getElem?_eq_getElem this⟩
      · obtain ⟨vs, a1, a2⟩ := get hh
        exact ⟨vs, a1, by rw [← rps_len a2]; exact hi⟩
      · obtain ⟨vs, a1, a2⟩ := get hh
        obtain ⟨rfl, hx⟩ := hy
        obtain ⟨d, b1, b2⟩ := rps_atv a2 (hx vs a1)
        exact ⟨Same.refl _, d, b1, b2⟩)
/-- the signs of a text, each a text -/
def signs (z : Str) : List B := z.cps.toList.map fun c => B.str ⟨#[c]⟩
theorem wstr (h : bwE G K te Γ fun b => ∃ z, b = .str z ∧ Pl (signs z)) : bwI G K (iStr te) Γ Pl := fun W σ H R E q =>
  RD.istr' (h W σ H _ E fun b v H1 p k1 E1 r1 => by
    obtain ⟨z, rfl, p⟩ := p
    refine ⟨z, rp_str.mp r1, q (signs z) [] [] _ H1 p k1 E1 (fun b u hb => (List.not_mem_nil hb).elim) (fun _ _ z => (List.not_mem_nil z).elim) ?_⟩
    have hl : (signs z).length = z.cps.size := by unfold signs; rw [List.length_map, Array.length_toList]
    refine ⟨fun Z H i hh _ hi => by rw [hl] at hi; exact hi, fun Z H i hh _ hi => by rw [hl] at hi; exact hi, fun Z H i x H' hh _ _ hy hi => ?_⟩
    obtain ⟨rfl, c, hc, rfl⟩ := hy
    refine ⟨Same.refl _, .str ⟨#[c]⟩, ?_, rp_str.mpr rfl⟩
    unfold signs
    rw [List.getElem?_map, Array.getElem?_toList, hc]
    rfl)
/-- lo, lo + 1, .. -/
def rng (lo : Int) (n : Nat) : List B := (List.range n).map fun (i : Nat) => B.int (lo + (i : Int))
theorem rng_len {lo : Int} {n : Nat} : (rng lo n).length = n := by unfold rng; rw [List.length_map, List.length_range]
theorem rng_at {lo : Int} {n i : Nat} {d : B} (h : (rng lo n)[i]? = some d) : i < n ∧ d = .int (lo + (i : Int)) := by
  have hi : i < n := by
    have := (List.getElem?_eq_some_iff.mp h).1
    rwa [rng_len] at this
  unfold rng at h
  rw [List.getElem?_map, List.getElem?_range hi] at h
  exact ⟨hi, (Option.some.inj h).symm⟩
theorem wk_rng {o : Sr} {lo : Int} {n : Nat} : WkI K o (Itr lo n) [] [] (rng lo n) := by
  refine ⟨fun Z H i hh _ hi => by rw [rng_len] at hi; exact hi, fun Z H i hh _ hi => by rw [rng_len] at hi; exact hi, fun Z H i x H' hh _ _ hy hi => ?_⟩
  obtain ⟨rfl, rfl⟩ := hy
  rw [rng_len] at hi
  refine ⟨Same.refl _, .int (lo + (i : Int)), ?_, rp_int.mpr rfl⟩
  unfold rng
  rw [List.getElem?_map, List.getElem?_range hi]
  rfl
theorem wrng1 (h : bwA G K t Γ fun bs => ∃ n : Nat, bs = [.int n] ∧ n < 2 ^ 62 ∧ Pl (rng 0 n)) : bwI G K (iRng1 t) Γ Pl := fun W σ H R E q =>
  RD.irng1 (h W σ H _ E fun bs vs H1 p k1 E1 r1 => by
    obtain ⟨n, rfl, hn, p⟩ := p
    obtain ⟨v, r, rfl, a1, a2⟩ := rps_cons.mp r1
    rw [rps_nil.mp a2, rp_int.mp a1]
    refine ⟨n, rfl, by omega, by omega, q _ [] [] _ H1 p k1 E1 (fun b u hb => (List.not_mem_nil hb).elim) (fun _ _ z => (List.not_mem_nil z).elim) ?_⟩
    rw [Int.toNat_natCast]
    exact wk_rng)
theorem wrng2 (h : bwA G K t Γ fun bs => ∃ i j : Int, bs = [.int i, .int j] ∧ (-(2 ^ 62) ≤ i ∧ i < 2 ^ 62 ∧ -(2 ^ 62) ≤ j ∧ j < 2 ^ 62) ∧ Pl (rng i (j - i).toNat)) : bwI G K (iRng2 t) Γ Pl := fun W σ H R E q =>
  RD.irng2 (h W σ H _ E fun bs vs H1 p k1 E1 r1 => by
    obtain ⟨i, j, rfl, hn, p⟩ := p
    obtain ⟨v, r, rfl, a1, a2⟩ := rps_cons.mp r1
    obtain ⟨v2, r2, rfl, b1, b2⟩ := rps_cons.mp a2
    rw [rps_nil.mp b2, rp_int.mp a1, rp_int.mp b1]
    exact ⟨i, j, rfl, hn, q _ [] [] _ H1 p k1 E1 (fun b u hb => (List.not_mem_nil hb).elim) (fun _ _ z => (List.not_mem_nil z).elim) wk_rng⟩)
/-- pairs -/
def pairs (xs ys : List B) : List B := (xs.zip ys).map fun q => B.tup [q.1, q.2]
theorem wzip (h : bwA G K t Γ fun bs => ∃ xs ys, bs = [.tup xs, .tup ys] ∧ Pl (pairs xs ys)) : bwI G K (RZ.iZipA K t) Γ Pl := fun W σ H R E q =>
  RD.izip' (h W σ H _ E fun bs vs H1 p k1 E1 r1 => by
    obtain ⟨xs, ys, rfl, p⟩ := p
    obtain ⟨v, r, rfl, a1, a2⟩ := rps_cons.mp r1
    obtain ⟨v2, r2, rfl, b1, b2⟩ := rps_cons.mp a2
    obtain rfl := rps_nil.mp b2
    obtain ⟨pa, va, rfl, s1, t1⟩ := rp_tup.mp a1
    obtain ⟨pb, vb, rfl, s2, t2⟩ := rp_tup.mp b1
    refine ⟨pa, pb, va, vb, rfl, .inr ⟨s1.sq, s2.sq, q _ [(.tup xs, .ref pa), (.tup ys, .ref pb)] [] _ H1 p k1 E1 (fun b u hb => ?_) (fun _ _ z => (List.not_mem_nil z).elim) ?_⟩⟩
    · rcases List.mem_cons.mp hb with e | hb
      · cases e
        exact a1
      · rw [List.mem_singleton] at hb
        cases hb
        exact b1
    · have get : ∀ {Z : AS} {H : Hp}, (∀ b v, (b, v) ∈ [(B.tup xs, V.ref pa), (B.tup ys, V.ref pb)] → Rp K Z W.o H b v) → ∃ va vb, SqT K H pa va ∧ SqT K H pb vb ∧ Rps K Z W.o H xs va ∧ Rps K Z W.o H ys vb := fun hh => by
        obtain ⟨p, vs, e, a1, a2⟩ := rp_tup.mp (hh _ _ (List.mem_cons_self ..))
        obtain ⟨p', vs', e', a1', a2'⟩ := rp_tup.mp (hh _ _ (List.mem_cons_of_mem _ (List.mem_singleton.mpr rfl)))
        cases e
        cases e'
        exact ⟨vs, vs', a1.sq, a1'.sq, a2, a2'⟩
      have hl : (pairs xs ys).length = min xs.length ys.length := by unfold pairs; rw [List.length_map, List.length_zip]
      refine ⟨fun Z H i hh _ hi => ?_, fun Z H i hh _ hi => ?_, fun Z H i x H' hh _ hz hy hi => ?_⟩
      · obtain ⟨va, vb, a1, b1, a2, b2⟩ := get hh
        have h1 : i < va.length := by rw [← rps_len a2]; omega
        have h2 : i < vb.length := by rw [← rps_len b2]; omega
        exact ⟨va, vb, va[i], vb[i], a1, b1, List.getElem?_eq_getElem h1, List.getElem?_eq_getElem h2⟩
      · obtain ⟨va, vb, a1, b1, a2, b2⟩ := get hh
        have h1 := rps_len a2
        have h2 := rps_len b2
        refine ⟨va, vb, a1, b1, ?_⟩
        rcases Nat.le_total xs.length ys.length with h | h
        · exact .inl (by omega)
        · exact .inr (by omega)
      · obtain ⟨va, vb, a1, b1, a2, b2⟩ := get hh
        obtain ⟨T, x, y, rfl, hT, rfl, hx, hy⟩ := hy
        obtain ⟨d1, c1, c2⟩ := rps_atv a2 (hx va a1)
        obtain ⟨d2, e1, e2⟩ := rps_atv b2 (hy vb b1)
        have off : ∀ b u, (¬ Z b ∨ isS W.o b) → ¬ Z b → H b = some u → upd H T (.tup [x, y]) b = some u := fun b u _ _ hb => by
          rw [upd_ne (ne_of_none hb hT)]
          exact hb
        refine ⟨(Same.refl H).nw hT, .tup [d1, d2], ?_, rp_tup.mpr ⟨T, [x, y], rfl, .inl ⟨upd_same, fun z => hz T z hT⟩, rps_cons.mpr ⟨x, [y], rfl, c2.off off, rps_one (e2.off off)⟩⟩⟩
        unfold pairs
        have ez : (xs.zip ys)[i]? = some (d1, d2) := List.getElem?_zip_eq_some.mpr ⟨c1, e1⟩
        rw [List.getElem?_map, ez]
        rfl)
/-- (0, x), (1, y), .. -/
def numbered (xs : List B) : List B := xs.zipIdx.map fun q => B.tup [.int (q.2 : Nat), q.1]
theorem wenum (h : bwA G K t Γ fun bs => ∃ xs, bs = [.lst xs] ∧ Pl (numbered xs)) : bwI G K (iEnum K t) Γ Pl := fun W σ H R E q =>
  RD.ienum (h W σ H _ E fun bs vs H1 p k1 E1 r1 => by
    obtain ⟨xs, rfl, p⟩ := p
    obtain ⟨v, r, rfl, a1, a2⟩ := rps_cons.mp r1
    obtain rfl := rps_nil.mp a2
    obtain ⟨pa, va, rfl, z1, s1, t1⟩ := rp_lst.mp a1
    refine ⟨pa, va, rfl, SqL.of s1, q _ [(.lst xs, .ref pa)] [] _ H1 p k1 E1 (fun b u hb => ?_) (fun _ _ z => (List.not_mem_nil z).elim) ?_⟩
    · rw [List.mem_singleton] at hb
      cases hb
      exact a1
    · have get : ∀ {Z : AS} {H : Hp}, (∀ b v, (b, v) ∈ [(B.lst xs, V.ref pa)] → Rp K Z W.o H b v) → ∃ va, SqL K H pa va ∧ Rps K Z W.o H xs va := fun hh => by
        obtain ⟨p, vs, e, _, a1, a2⟩ := rp_lst.mp (hh _ _ (List.mem_singleton.mpr rfl))
        cases e
        exact ⟨vs, SqL.of a1, a2⟩
      have hl : (numbered xs).length = xs.length := by unfold numbered; rw [List.length_map, List.length_zipIdx]
      refine ⟨fun Z H i hh _ hi => ?_, fun Z H i hh _ hi => ?_, fun Z H i x H' hh _ hz hy hi => ?_⟩
      · obtain ⟨va, a1, a2⟩ := get hh
        have h1 : i < va.length := by rw [← rps_len a2]; omega
        exact ⟨va, va[i], a1, List.getElem?_eq_getElem h1⟩
      · obtain ⟨va, a1, a2⟩ := get hh
        have h1 := rps_len a2
        exact ⟨va, a1, by omega⟩
      · obtain ⟨va, a1, a2⟩ := get hh
        obtain ⟨T, x, rfl, hT, rfl, hx⟩ := hy
        obtain ⟨d1, c1, c2⟩ := rps_atv a2 (hx va a1)
        have off : ∀ b u, (¬ Z b ∨ isS W.o b) → ¬ Z b → H b = some u → upd H T (.tup [.int (i : Nat), x]) b = some u := fun b u _ _ hb => by
          rw [upd_ne (ne_of_none hb hT)]
          exact hb
        refine ⟨(Same.refl H).nw hT, .tup [.int (i : Nat), d1], ?_, rp_tup.mpr ⟨T, _, rfl, .inl ⟨upd_same, fun z => hz T z hT⟩, rps_cons.mpr ⟨_, [x], rfl, rp_int.mpr rfl, rps_one (c2.off off)⟩⟩⟩
        unfold numbered
        rw [List.getElem?_map, List.getElem?_zipIdx, c1]
        simp)
/-! ### for, while -/
theorem forI (h : bwI G K wi Γ fun ds => ∃ I : Nat → List Cell → Prop, I 0 Γ ∧ (∀ k d Γ', ds[k]? = some d → I k Γ' → bwG G K g d Γ' fun g' => bwS G K t1 g' ⟨I (k + 1), e.R, e.N, I (k + 1)⟩) ∧ ∀ Γ', I ds.length Γ' → e.N Γ') : bwS G K (tFor wi g t1) Γ e := fun W σ H D E q1 q2 q3 q4 => by
  refine h W σ H _ E fun ds tm t2 J H1 p k1 E1 htm ht2 wk => ?_
  obtain ⟨I, i0, step, done⟩ := p
  refine ⟨fun i m σ' H' => m = ds.length - i ∧ i ≤ ds.length ∧ ∃ Γ', I i Γ' ∧ Env G K ((W.keep2 t2).keep tm) Γ' σ' H', ⟨ds.length, rfl, Nat.zero_le _, Γ, i0, (E1.keep2 ht2).keep htm⟩, fun i m σ' H' hI => ?_⟩
  obtain ⟨rfl, hi, Γ', hI, E'⟩ := hI
  have tm' : ∀ b v, (b, v) ∈ tm → Rp K (ZZ ((W.keep2 t2).keep tm) Γ' σ') W.o H' b v := fun b v hb => E'.tmp b v (List.mem_append_left _ hb)
  have t2' : ∀ a u, (a, u) ∈ t2 → H' a = some u := fun a u ha => (E'.tm2 a u (List.mem_append_left _ ha)).1
  rcases Nat.lt_or_ge i ds.length with hlt | hge
  · refine .inr ⟨wk.go _ _ _ tm' t2' hlt, fun σ2 H2 => ∃ Γ2, I (i + 1) Γ2 ∧ Env G K ((W.keep2 t2).keep tm) Γ2 σ2 H2, fun σ2 H2 ⟨Γ2, j, E2⟩ => ⟨_, by omega, rfl, hlt, Γ2, j, E2⟩, fun x H2 hy => ?_⟩
    obtain ⟨s2, d, hd, rd⟩ := wk.yld _ _ _ _ _ tm' t2' E'.zz hy hlt
    exact step i d Γ' hd hI ((W.keep2 t2).keep tm) σ' H2 x _ (E'.same s2) rd fun Γ2 σ2 b2 E2 => b2 ((W.keep2 t2).keep tm) σ2 H2 _ E2 (fun Γ3 σ3 H3 n E3 => ⟨Γ3, n, E3⟩) (fun b v H3 r f => q2 b v H3 r f) (fun Γ3 σ3 H3 n E3 => q1 Γ3 σ3 H3 n E3.drop.drop2) (fun Γ3 σ3 H3 n E3 => ⟨Γ3, n, E3⟩)
  · have e1 : i = ds.length := by omega
    subst e1
    exact .inl ⟨wk.stop _ _ _ tm' t2' hge, q1 Γ' σ' H' (done Γ' hI) E'.drop.drop2⟩
theorem while_ (I : Nat → List Cell → Prop) (m0 : Nat) (i0 : I m0 Γ) (step : ∀ m Γ', I m Γ' → bwT G K c Γ' fun b => if b = true then bwS G K t1 Γ' ⟨fun g' => ∃ m', m' < m ∧ I m' g', e.R, e.N, fun g' => ∃ m', m' < m ∧ I m' g'⟩ else e.N Γ') : bwS G K (tWhile c t1) Γ e := fun W σ H D E q1 q2 q3 q4 => by
  refine ⟨fun m σ' H' => ∃ Γ', I m Γ' ∧ Env G K W Γ' σ' H', ⟨m0, Γ, i0, E⟩, fun m σ' H' ⟨Γ', hI, E'⟩ => step m Γ' hI W σ' H' _ E' fun b H1 p k1 E1 => ?_⟩
  cases b with
  | true =>
    rw [if_pos rfl] at p ⊢
    exact ⟨fun σ2 H2 => ∃ Γ2, (∃ m', m' < m ∧ I m' Γ2) ∧ Env G K W Γ2 σ2 H2, fun σ2 H2 ⟨Γ2, ⟨m', hm, j⟩, E2⟩ => ⟨m', hm, Γ2, j, E2⟩, p W σ' H1 _ E1 (fun Γ3 σ3 H3 n E3 => ⟨Γ3, n, E3⟩) q2 (fun Γ3 σ3 H3 n E3 => q1 Γ3 σ3 H3 n E3) (fun Γ3 σ3 H3 n E3 => ⟨Γ3, n, E3⟩)⟩
  | false =>
    rw [if_neg Bool.false_ne_true] at p ⊢
    exact q1 Γ' σ' H1 p E1
/-! ### list comprehensions -/
theorem Env.plusLate (E : Env G K W Γ σ H1) {D : Addr} (n : H1 D = none) (k : Kp W.o H1 H') (d : DOk G W H') (hD : H' D ≠ none) : Env G K (W.plus D) Γ σ H' := by
  cases h : H' D with
  | none => exact absurd h hD
  | some u =>
    refine (E.plus n (u := u)).step (fun b v hs hb => ?_) d
    by_cases e : b = D
    · subst e
      rw [upd_same] at hb
      rw [h, hb]
    · rw [upd_ne e] at hb
      exact k b v hs hb
/-- where a comprehension's block stands -/
def Wd.comp (W : Wd) (Γ : List Cell) (σ : L2.St) (H1 : Hp) (tm : List (B × V)) (t2 : List (Addr × HO)) (D : Addr) : Wd := ⟨H1, fun p => ZZ W Γ σ p ∨ p = D, W.o, tm ++ W.T, t2 ++ W.T2, W.HX, W.ZX⟩
theorem no_own {p : Addr} : ¬ ownA (wipeC Γ ws) (wipe σ ws) p := fun ⟨i, b, h1, _⟩ => by
  obtain ⟨_, c', _, e⟩ := wipeC_get h1 (fun z => nomatch z)
  cases c' <;> cases e
theorem Env.comp (E : Env G K W Γ σ H1) {D : Addr} (n : H1 D = none) {tm : List (B × V)} {t2 : List (Addr × HO)} (ht : ∀ b v, (b, v) ∈ tm → Rp K (ZZ W Γ σ) W.o H1 b v) (h2 : ∀ a u, (a, u) ∈ t2 → H1 a = some u ∧ ¬ ZZ W Γ σ a) {u : HO} : Env G K (W.comp Γ σ H1 tm t2 D) (wipeC Γ ws) (wipe σ ws) (upd H1 D u) := by
  obtain ⟨f1, f2, f3⟩ := E.fresh n
  have zz : ∀ p, ZZ (W.comp Γ σ H1 tm t2 D) (wipeC Γ ws) (wipe σ ws) p → ZZ W Γ σ p ∨ p = D := fun p z => z.elim id fun z => absurd z no_own
  have mvt : ∀ b, ¬ ZZ W Γ σ b → H1 b ≠ none → ¬ ZZ (W.comp Γ σ H1 tm t2 D) (wipeC Γ ws) (wipe σ ws) b := fun b nb hb z => (zz b z).elim nb fun e => hb (by rw [e]; exact n)
  have zs' : ∀ st, isS W.o st → ZZ (W.comp Γ σ H1 tm t2 D) (wipeC Γ ws) (wipe σ ws) st := fun st z => .inl (.inl (E.zs st z))
  have kk : Kp W.o H1 (upd H1 D u) := (Kp.refl).nw n
  have ob : ∀ a v, H1 a = some v ∧ ¬ ZZ W Γ σ a → upd H1 D u a = some v ∧ ¬ ZZ (W.comp Γ σ H1 tm t2 D) (wipeC Γ ws) (wipe σ ws) a := fun a v ⟨e, nz⟩ => ⟨by rw [upd_ne (ne_of_none e n)]; exact e, fun z => (zz a z).elim nz fun e2 => ne_of_none e n e2⟩
  refine ⟨by rw [wipeC_len, wipe_length, E.len], (E.nw n).dok, fun st cl e => ⟨.inl (.inl (E.src st cl e).1), fun z => (zz _ z).elim (E.src st cl e).2 fun e2 => ?_⟩, kk, fun p hp => ?_, fun b v hb => ?_, fun i b hb => ?_, fun i b hb => ?_, fun i j b c p h1 _ _ _ => ?_, E.lk, E.wok, E.kx.trans E.kp, fun p z => ⟨.inl (.inl (E.zx p z).1), E.zt p (E.zx p z).1⟩, fun a v h => ?_⟩
  · obtain ⟨xs, q⟩ := G.cl (E.dok st cl e)
    rw [e2, n] at q
    cases q
  · rcases hp with hp | hp
    · exact (E.nw n).zz p hp
    · rw [show p = D from hp, upd_same]
      exact fun z => nomatch z
  · rcases List.mem_append.mp hb with hb | hb
    · exact ((ht b v hb).mv mvt).kp zs' kk
    · exact ((E.tmp b v hb).mv mvt).kp zs' kk
  · obtain ⟨hi, c', h1, h2⟩ := wipeC_get hb (fun z => nomatch z)
    cases c' with
    | sh b' =>
      cases h2
      obtain ⟨v, a1, a2⟩ := E.sh i b h1
      exact ⟨v, (wipe_get hi).trans a1, (a2.mv mvt).kp zs' kk⟩
    | no => cases h2
    | ow _ => cases h2
  · obtain ⟨_, c', _, h2⟩ := wipeC_get hb (fun z => nomatch z)
    cases c' <;> cases h2
  · obtain ⟨_, c', _, h2⟩ := wipeC_get h1 (fun z => nomatch z)
    cases c' <;> cases h2
  · rcases List.mem_append.mp h with h | h
    · exact ob a v (h2 a v h)
    · exact ob a v (E.tm2 a v h)
/-- what a comprehension asks of a turn -/
def LcT (G : DK) (K : PySem.W.Frag) (g : TG) (tt : TT) (te : TE) (ws : List Nat) (Γ : List Cell) (Post : B → Prop) (ds : List B) : Prop := ∃ I : Nat → List B → Prop, I 0 [] ∧ (∀ (k : Nat) (d : B) (acc : List B), ds[k]? = some d → I k acc → bwGv G K ws g d (wipeC Γ ws) fun g' => bwT G K tt g' fun b => if b = true then bwE G K te g' fun y => acc.length < sizeLine ∧ I (k + 1) (acc ++ [y]) else I (k + 1) acc) ∧ ∀ acc, I ds.length acc → Post (.lst acc)
theorem lc_go {tm : List (B × V)} {t2 : List (Addr × HO)} {J : It} {Q : VK} {D : Addr} (E1 : Env G K W Γ σ H1) (htm : ∀ b v, (b, v) ∈ tm → Rp K (ZZ W Γ σ) W.o H1 b v) (ht2 : ∀ a u, (a, u) ∈ t2 → H1 a = some u ∧ ¬ ZZ W Γ σ a) (wk : WkI K W.o J tm t2 ds) (p : LcT G K g tt te ws Γ Post ds) (hD : H1 D = none)
    (q : ∀ (acc : List B) (H' : Hp), Post (.lst acc) → Kp W.o H1 H' → Env G K (W.plus D) Γ σ H' → OwAt K (ZZ (W.plus D) Γ σ) W.o H' D (.lst acc) → (∀ a u, (a, u) ∈ t2 → H' a = some u) → Q (.ref D) H') :
    ∃ W : Nat → Nat → Hp → Prop, (∃ m, W 0 m (upd H1 D (.lst []))) ∧ ∀ i m H, W i m H →
      (J.stop i H ∧ Q (.ref D) H) ∨ (J.go i H ∧ ∃ Nx : Hp → Prop, (∀ H', Nx H' → ∃ m', m' < m ∧ W (i + 1) m' H') ∧ ∀ x H', J.yld i H x H' → g x (wipe σ ws) H' fun σ2 H2 => wipe σ2 ws = wipe σ ws ∧ tt σ2 H2 fun b H3 =>
        if b = true then te σ2 H3 fun y H4 => ∃ acc, H4 D = some (.lst acc) ∧ acc.length < sizeLine ∧ Nx (upd H4 D (.lst (acc ++ [y]))) else Nx H3) := by
  obtain ⟨I, i0, step, done⟩ := p
  obtain ⟨f1, f2, f3⟩ := E1.fresh hD
  have E2 := E1.comp (ws := ws) hD htm ht2 (u := .lst [])
  refine ⟨fun i m H' => m = ds.length - i ∧ i ≤ ds.length ∧ ∃ acc, I i acc ∧ Env G K (W.comp Γ σ H1 tm t2 D) (wipeC Γ ws) (wipe σ ws) H' ∧ ∃ av, H' D = some (.lst av) ∧ Rps K (fun p => ZZ W Γ σ p ∨ p = D) W.o H' acc av, ⟨ds.length, rfl, Nat.zero_le _, [], i0, E2, [], upd_same, rps_nil.mpr rfl⟩, fun i m H' hI => ?_⟩
  obtain ⟨rfl, hi, acc, hI, E', av, hL, hA⟩ := hI
  have tm' : ∀ b v, (b, v) ∈ tm → Rp K (ZZ (W.comp Γ σ H1 tm t2 D) (wipeC Γ ws) (wipe σ ws)) W.o H' b v := fun b v hb => E'.tmp b v (List.mem_append_left _ hb)
  have t2' : ∀ a u, (a, u) ∈ t2 → H' a = some u := fun a u ha => (E'.tm2 a u (List.mem_append_left _ ha)).1
  rcases Nat.lt_or_ge i ds.length with hlt | hge
  · refine .inr ⟨wk.go _ _ _ tm' t2' hlt, fun H2 => ∃ acc, I (i + 1) acc ∧ Env G K (W.comp Γ σ H1 tm t2 D) (wipeC Γ ws) (wipe σ ws) H2 ∧ ∃ av, H2 D = some (.lst av) ∧ Rps K (fun p => ZZ W Γ σ p ∨ p = D) W.o H2 acc av, fun H2 ⟨acc2, a1, a2, a3⟩ => ⟨_, by omega, rfl, hlt, acc2, a1, a2, a3⟩, fun x H2 hy => ?_⟩
    obtain ⟨s2, d, hd, rd⟩ := wk.yld _ _ _ _ _ tm' t2' E'.zz hy hlt
    have E3 := E'.same s2
    refine step i d acc hd hI (W.comp Γ σ H1 tm t2 D) (wipe σ ws) H2 x _ E3 rd fun Γ2 σ2 b2 hw E4 => ⟨hw.trans wipe_idem, b2 (W.comp Γ σ H1 tm t2 D) σ2 H2 _ E4 fun b H3 pb k3 E5 => ?_⟩
    have fin : ∀ {H4 : Hp}, Kp W.o H2 H4 → DOk G W H4 → Env G K (W.comp Γ σ H1 tm t2 D) (wipeC Γ ws) (wipe σ ws) H4 ∧ H4 D = some (.lst av) ∧ Rps K (fun p => ZZ W Γ σ p ∨ p = D) W.o H4 acc av := fun {H4} k4 d4 =>
      have kk := (Kp.same (o := W.o) s2).trans k4
      ⟨E'.step kk d4, kk _ _ f3 hL, hA.kp (fun st z => .inl (E1.zs st z)) kk⟩
    cases b with
    | true =>
      rw [if_pos rfl] at pb ⊢
      refine pb (W.comp Γ σ H1 tm t2 D) σ2 H3 _ E5 fun y v H4 py k4 E6 r6 => ?_
      obtain ⟨a1, a2, a3⟩ := fin (k3.trans k4) E6.dok
      have off : ∀ b u, (¬ (ZZ W Γ σ b ∨ b = D) ∨ isS W.o b) → ¬ (ZZ W Γ σ b ∨ b = D) → H4 b = some u → upd H4 D (.lst (av ++ [v])) b = some u := fun b u _ n hb => by
        rw [upd_ne fun e => n (.inr e)]
        exact hb
      refine ⟨av, a2, by rw [← rps_len hA]; exact py.1, acc ++ [y], py.2, (show Env G K (Wd.plus ⟨H1, ZZ W Γ σ, W.o, tm ++ W.T, t2 ++ W.T2, W.HX, W.ZX⟩ D) _ _ H4 from a1).put hD f3 no_own, av ++ [v], upd_same, rps_app (a3.off off) (rps_one ((r6.less fun p z => .inl z).off off))⟩
    | false =>
      rw [if_neg Bool.false_ne_true] at pb ⊢
      obtain ⟨a1, a2, a3⟩ := fin k3 E5.dok
      exact ⟨acc, pb, a1, av, a2, a3⟩
  · have e1 : i = ds.length := by omega
    subst e1
    exact .inl ⟨wk.stop _ _ _ tm' t2' hge, q acc H' (done acc hI) E'.kp (E1.plusLate hD E'.kp E'.dok (by rw [hL]; exact fun z => nomatch z)) ⟨av, hL, hA.mv fun b nb _ z => nb (zz_plus.mp z)⟩ t2'⟩
theorem lcN (h : bwI G K wi Γ fun ds => LcT G K g tt te ws Γ Post ds) : bwN G K (tLc wi g tt te ws) Γ Post := fun W σ H Q E q => by
  unfold tLc
  refine h W σ H _ E fun ds tm t2 J H1 p k1 E1 htm ht2 wk D hD => ?_
  obtain ⟨f1, f2, f3⟩ := E1.fresh hD
  exact lc_go E1 htm ht2 wk p hD fun acc H' pa k2 E' ow _ => q _ D H' pa (k1.trans k2) E' f1 f3 f2 ow
end
end BV

set_option Elab.async false
set_option linter.all false
set_option maxRecDepth 100000
set_option maxHeartbeats 4000000
/-! by value: operators and built-ins -/
namespace BV
open PySem PySem.Spec PyProof.Rows L2 G0
/-! data for == -/
mutual
def py : B → PyData
  | .non => .none
  | .bl b => .bool b
  | .int i => .int i
  | .str x => .str x
  | .tup ds => .tuple (pys ds)
  | .lst ds => .list (pys ds)
  | .dct _ _ => .dict []
  | .src => .dict []
  | .raw _ => .dict []
  | .xc _ _ _ _ => .dict []
def pys : List B → List PyData
  | [] => []
  | d :: ds => py d :: pys ds
end
theorem pys_len : ∀ ds : List B, (pys ds).length = ds.length
  | [] => by rw [pys]; rfl
  | d :: ds => by rw [pys, List.length_cons, List.length_cons, pys_len ds]
def ty : B → String
  | .non => "NoneType" | .bl _ => "bool" | .int _ => "int" | .str _ => "str" | .tup _ => "tuple" | .lst _ => "list" | .dct _ _ => "dict" | _ => "?"
def isTy (x : B) (S : String) : Bool := ty x == S || (ty x == "bool" && S == "int")
section
variable {G : DK} {K : PySem.W.Frag} {W : Wd} {Γ : List Cell} {σ : L2.St} {H H' H1 : Hp} {Post P : B → Prop} {te ta tb : TE} {t tr : TA} {Z : AS} {o : Sr}
mutual
theorem Rp.dp : ∀ {d : B} {v : V}, Rp K Z o H d v → SeqAt.shaped (py d) = true ∨ (py d).canLay0 = true → Dp K H v (py d)
  | .non, v, h, _ => by rw [rp_non.mp h, py]; exact .non
  | .bl _, v, h, _ => by rw [rp_bl.mp h, py]; exact .bl _
  | .int _, v, h, _ => by rw [rp_int.mp h, py]; exact .int _
  | .str _, v, h, _ => by rw [rp_str.mp h, py]; exact .str _
  | .tup ds, v, h, s => by
    obtain ⟨p, vs, rfl, h1, h2⟩ := rp_tup.mp h
    rw [py] at s ⊢
    refine .tup h1.sq (Rps.dp h2 ?_)
    rcases s with s | s
    · exact SeqAt.canLay_of_shaped s
    · exact s
  | .lst ds, v, h, s => by
    obtain ⟨p, vs, rfl, _, h1, h2⟩ := rp_lst.mp h
    rw [py] at s ⊢
    refine .lst (SqL.of h1) (Rps.dp h2 ?_)
    rcases s with s | s
    · exact SeqAt.canLay_of_shaped s
    · exact s
  | .dct _ _, v, h, s => by rw [py] at s; exact s.elim (fun z => nomatch SeqAt.canLay_of_shaped z) fun z => nomatch z
  | .src, v, h, s => by rw [py] at s; exact s.elim (fun z => nomatch SeqAt.canLay_of_shaped z) fun z => nomatch z
  | .raw _, v, h, s => by rw [py] at s; exact s.elim (fun z => nomatch SeqAt.canLay_of_shaped z) fun z => nomatch z
  | .xc _ _ _ _, v, h, s => by rw [py] at s; exact s.elim (fun z => nomatch SeqAt.canLay_of_shaped z) fun z => nomatch z
theorem Rps.dp : ∀ {ds : List B} {vs : List V}, Rps K Z o H ds vs → PyData.canLayAll0 (pys ds) = true → DpAll K H vs (pys ds)
  | [], vs, h, _ => by
    rw [rps_nil.mp h, pys]
    exact .nil
  | d :: ds, vs, h, s => by
    obtain ⟨v, r, rfl, h1, h2⟩ := rps_cons.mp h
    rw [pys] at s ⊢
    rw [PyData.canLayAll0, Bool.and_eq_true] at s
    exact .cons (Rp.dp h1 (.inr s.1)) (Rps.dp h2 s.2)
end
/-! ### ints -/
theorem i0 {g : Int → Int → V} {i j n : Int} (q : Post (.int n)) (e : g i j = .int n := by rfl) : bwR2 G K (rI0 g) (.int i) (.int j) Post := fun W Γ σ H v u Q E r1 r2 k => by
  rw [rp_int.mp r1, rp_int.mp r2]
  exact ⟨i, j, rfl, rfl, k _ _ H q Kp.refl E (rp_int.mpr e)⟩
theorem i0b {g : Int → Int → V} {i j : Int} {b : Bool} (q : Post (.bl b)) (e : g i j = .bl b := by rfl) : bwR2 G K (rI0 g) (.int i) (.int j) Post := fun W Γ σ H v u Q E r1 r2 k => by
  rw [rp_int.mp r1, rp_int.mp r2]
  exact ⟨i, j, rfl, rfl, k _ _ H q Kp.refl E (rp_bl.mpr e)⟩
theorem i1 {C : Int → Int → Prop} {g : Int → Int → V} {i j n : Int} (hc : C i j) (q : Post (.int n)) (e : g i j = .int n := by rfl) : bwR2 G K (rI C g) (.int i) (.int j) Post := fun W Γ σ H v u Q E r1 r2 k => by
  rw [rp_int.mp r1, rp_int.mp r2]
  exact ⟨i, j, rfl, rfl, hc, k _ _ H q Kp.refl E (rp_int.mpr e)⟩
/-! ### == -/
theorem eqS {x y : Str} (q : Post (.bl (decide (x = y)))) : bwR2 G K rEq (.str x) (.str y) Post := fun W Γ σ H v u Q E r1 r2 k => by
  rw [rp_str.mp r1, rp_str.mp r2]
  exact RD.eqS (k _ _ H q Kp.refl E (rp_bl.mpr rfl))
theorem eqI {x y : Int} (q : Post (.bl (decide (x = y)))) : bwR2 G K rEq (.int x) (.int y) Post := fun W Γ σ H v u Q E r1 r2 k => by
  rw [rp_int.mp r1, rp_int.mp r2]
  exact RD.eqI (k _ _ H q Kp.refl E (rp_bl.mpr rfl))
theorem neS {x y : Str} (q : Post (.bl (!decide (x = y)))) : bwR2 G K rNe (.str x) (.str y) Post := fun W Γ σ H v u Q E r1 r2 k => by
  rw [rp_str.mp r1, rp_str.mp r2]
  exact RD.neS (k _ _ H q Kp.refl E (rp_bl.mpr rfl))
theorem neI {x y : Int} (q : Post (.bl (!decide (x = y)))) : bwR2 G K rNe (.int x) (.int y) Post := fun W Γ σ H v u Q E r1 r2 k => by
  rw [rp_int.mp r1, rp_int.mp r2]
  exact RD.neI (k _ _ H q Kp.refl E (rp_bl.mpr rfl))
theorem neB {x y : Bool} (q : Post (.bl (!decide (x = y)))) : bwR2 G K rNe (.bl x) (.bl y) Post := fun W Γ σ H v u Q E r1 r2 k => by
  rw [rp_bl.mp r1, rp_bl.mp r2]
  have e : decide (V.bl x = V.bl y) = decide (x = y) := decide_eq_decide.mpr ⟨fun z => V.bl.inj z, fun z => congrArg V.bl z⟩
  refine ⟨rfl, ?_⟩
  rw [e]
  exact k _ _ H q Kp.refl E (rp_bl.mpr rfl)
theorem eqD {x y : B} (hx : SeqAt.shaped (py x) = true) (hy : SeqAt.shaped (py y) = true) (q : Post (.bl (PyData.eqv (py x) (py y)))) : bwR2 G K (rEqD K) x y Post := fun W Γ σ H v u Q E r1 r2 k =>
  ⟨py x, py y, r1.dp (.inl hx), r2.dp (.inl hy), hx, hy, k _ _ H q Kp.refl E (rp_bl.mpr rfl)⟩
theorem neD {x y : B} (hx : SeqAt.shaped (py x) = true) (hy : SeqAt.shaped (py y) = true) (q : Post (.bl (!PyData.eqv (py x) (py y)))) : bwR2 G K (rNeD K) x y Post := fun W Γ σ H v u Q E r1 r2 k =>
  ⟨py x, py y, r1.dp (.inl hx), r2.dp (.inl hy), hx, hy, k _ _ H q Kp.refl E (rp_bl.mpr rfl)⟩
def isNon : B → Bool
  | .non => true
  | _ => false
def isPlainB : B → Bool
  | .src => false | .raw _ => false | .xc _ _ _ _ => false
  | _ => true
theorem isN_rp {x : B} {v : V} (h : Rp K Z o H x v) (hx : isPlainB x = true) : decide (v = .non) = isNon x := by
  cases x with
  | non => rw [rp_non.mp h]; rfl
  | bl _ => rw [rp_bl.mp h]; rfl
  | int _ => rw [rp_int.mp h]; rfl
  | str _ => rw [rp_str.mp h]; rfl
  | tup _ => obtain ⟨p, vs, rfl, _⟩ := rp_tup.mp h; rfl
  | lst _ => obtain ⟨p, vs, rfl, _⟩ := rp_lst.mp h; rfl
  | dct _ _ => obtain ⟨p, vs, rfl, _⟩ := rp_dct.mp h; rfl
  | src => cases hx
  | raw _ => cases hx
  | xc _ _ _ _ => cases hx
theorem isN {x : B} (hx : isPlainB x = true) (q : Post (.bl (isNon x))) : bwR2 G K rIsN x .non Post := fun W Γ σ H v u Q E r1 r2 k => by
  refine ⟨rp_non.mp r2, ?_⟩
  rw [isN_rp r1 hx]
  exact k _ _ H q Kp.refl E (rp_bl.mpr rfl)
theorem notN {x : B} (hx : isPlainB x = true) (q : Post (.bl (!isNon x))) : bwR2 G K rNotN x .non Post := fun W Γ σ H v u Q E r1 r2 k => by
  refine ⟨rp_non.mp r2, ?_⟩
  rw [isN_rp r1 hx]
  exact k _ _ H q Kp.refl E (rp_bl.mpr rfl)
/-! ### items -/
theorem rps_atI {ds : List B} {vs : List V} {i : Int} {d : B} (h : Rps K Z o H ds vs) (e : atI ds i = some d) : ∃ v, atI vs i = some v ∧ Rp K Z o H d v := by
  unfold atI at e ⊢
  rw [rps_len h] at e
  cases q : ixN vs.length i with
  | none => rw [q] at e; cases e
  | some j =>
    rw [q] at e
    exact rps_at h e
theorem ixT {ds : List B} {i : Int} {d : B} (h : atI ds i = some d) (q : Post d) : bwR2 G K (rIxT K) (.tup ds) (.int i) Post := fun W Γ σ H v u Q E r1 r2 k => by
  obtain ⟨p, vs, rfl, h1, h2⟩ := rp_tup.mp r1
  rw [rp_int.mp r2]
  obtain ⟨w, a1, a2⟩ := rps_atI h2 h
  exact RD.ixT h1.sq a1 (k _ _ H q Kp.refl E a2)
theorem ixL {ds : List B} {i : Int} {d : B} (h : atI ds i = some d) (q : Post d) : bwR2 G K (rIxL K) (.lst ds) (.int i) Post := fun W Γ σ H v u Q E r1 r2 k => by
  obtain ⟨p, vs, rfl, hz, h1, h2⟩ := rp_lst.mp r1
  rw [rp_int.mp r2]
  obtain ⟨w, a1, a2⟩ := rps_atI h2 h
  exact RD.ixL (SqL.of h1) a1 (k _ _ H q Kp.refl E a2)
theorem ixS {z : Str} {i : Int} {c : Nat} (hz : z.length ≤ sizeLine) (h : atI z.cps.toList i = some c) (q : Post (.str ⟨#[c]⟩)) : bwR2 G K rIxS (.str z) (.int i) Post := fun W Γ σ H v u Q E r1 r2 k => by
  rw [rp_str.mp r1, rp_int.mp r2]
  exact ⟨z, i, c, rfl, rfl, hz, h, k _ _ H q Kp.refl E (rp_str.mpr rfl)⟩
/-! ### cuts -/
def cutB {α : Type} (xs : List α) (lo hi : Option Int) : List α := (xs.drop (HT.sIx xs.length 0 lo)).take (HT.sIx xs.length xs.length hi - HT.sIx xs.length 0 lo)
theorem rps_cut {ds : List B} {vs : List V} {lo hi : Option Int} (h : Rps K Z o H ds vs) : Rps K Z o H (cutB ds lo hi) (cutV vs lo hi) := by
  unfold cutB cutV
  rw [rps_len h]
  exact rps_take _ (rps_drop _ h)
def bwO (G : DK) (K : PySem.W.Frag) (to : TO) (Γ : List Cell) (Post : Option Int → Prop) : Prop := ∀ (W : Wd) (σ : L2.St) (H : Hp) (Q : Option Int → Hp → Prop), Env G K W Γ σ H → (∀ (b : Option Int) (H' : Hp), Post b → Kp W.o H H' → Env G K W Γ σ H' → Q b H') → to σ H Q
def bwSl (G : DK) (K : PySem.W.Frag) (r : V → Option Int → Option Int → Hp → VK → Prop) (x : B) (lo hi : Option Int) (Post : B → Prop) : Prop := ∀ (W : Wd) (Γ : List Cell) (σ : L2.St) (H : Hp) (v : V) (Q : VK), Env G K W Γ σ H → Rp K (ZZ W Γ σ) W.o H x v → (∀ (b : B) (z : V) (H' : Hp), Post b → Kp W.o H H' → Env G K W Γ σ H' → Rp K (ZZ W Γ σ) W.o H' b z → Q z H') → r v lo hi H Q
theorem noP {PO : Option Int → Prop} (q : PO none) : bwO G K tNoPart Γ PO := fun W σ H Q E k => RD.noPart (k none H q Kp.refl E)
theorem part {PO : Option Int → Prop} (h : bwE G K te Γ fun b => ∃ i, b = .int i ∧ PO (some i)) : bwO G K (tPart te) Γ PO := fun W σ H Q E k =>
  RD.part (h W σ H _ E fun b v H1 p k1 E1 r1 => by
    obtain ⟨i, rfl, p⟩ := p
    exact ⟨i, rp_int.mp r1, k _ H1 p k1 E1⟩)
theorem sl {r : V → Option Int → Option Int → Hp → VK → Prop} {tl th : TO} (h : bwE G K te Γ fun x => bwO G K tl Γ fun lo => bwO G K th Γ fun hi => bwSl G K r x lo hi Post) : bwE G K (tSl r te tl th) Γ Post := fun W σ H Q E k =>
  RD.sl (h W σ H _ E fun x v H1 p1 k1 E1 r1 => p1 W σ H1 _ E1 fun lo H2 p2 k2 E2 => p2 W σ H2 _ E2 fun hi H3 p3 k3 E3 => p3 W Γ σ H3 v Q E3 ((r1.kp E1.zs k2).kp E2.zs k3) fun b z H4 pb k4 => k b z H4 pb (k1.trans (k2.trans (k3.trans k4))))
theorem slT {ds : List B} {lo hi : Option Int} (q : Post (.tup (cutB ds lo hi))) : bwSl G K (rSlA K) (.tup ds) lo hi Post := fun W Γ σ H v Q E r1 k => by
  obtain ⟨p, vs, rfl, h1, h2⟩ := rp_tup.mp r1
  refine ⟨p, vs, rfl, h1.sq, fun ⟨e1, e2⟩ => k _ _ H q Kp.refl E (rp_tup.mpr ⟨p, vs, rfl, h1, ?_⟩), fun _ np hn => k _ _ _ q (Kp.refl.nw hn) (E.nw hn) (rp_tup.mpr ⟨np, _, rfl, .inl ⟨upd_same, (E.fresh hn).2.1⟩, (rps_cut h2).kp E.zs (Kp.refl.nw hn)⟩)⟩
  have hl := rps_len h2
  unfold cutB
  rw [hl, e1, e2, List.drop_zero, Nat.sub_zero, List.take_of_length_le (by omega)]
  exact h2
theorem slLN {ds : List B} {lo hi : Option Int} (q : Post (.lst (cutB ds lo hi))) : bwSl G K (rSlL K) (.lst ds) lo hi Post := fun W Γ σ H v Q E r1 k => by
  obtain ⟨p, vs, rfl, hz, h1, h2⟩ := rp_lst.mp r1
  exact ⟨p, vs, rfl, SqL.of h1, fun np hn => k _ _ _ q (Kp.refl.nw hn) (E.nw hn) (rp_lst.mpr ⟨np, _, rfl, (E.fresh hn).2.1, upd_same, (rps_cut h2).kp E.zs (Kp.refl.nw hn)⟩)⟩
theorem slS {z : Str} {lo hi : Option Int} (hz : z.length ≤ sizeLine) (q : Post (.str (cutS z lo hi))) : bwSl G K rSlS (.str z) lo hi Post := fun W Γ σ H v Q E r1 k => by
  rw [rp_str.mp r1]
  exact ⟨z, rfl, hz, k _ _ H q Kp.refl E (rp_str.mpr rfl)⟩
/-! ### joined -/
theorem catL {xs ys : List B} (hl : xs.length + ys.length ≤ sizeLine) (q : Post (.lst (xs ++ ys))) : bwR2 G K rCat (.lst xs) (.lst ys) Post := fun W Γ σ H v u Q E r1 r2 k => by
  obtain ⟨p, vs, rfl, hz, h1, h2⟩ := rp_lst.mp r1
  obtain ⟨p', vs', rfl, hz', h1', h2'⟩ := rp_lst.mp r2
  exact ⟨p, p', vs, vs', rfl, rfl, h1, h1', by rw [← rps_len h2, ← rps_len h2']; exact hl, fun np hn => k _ _ _ q (Kp.refl.nw hn) (E.nw hn) (rp_lst.mpr ⟨np, _, rfl, (E.fresh hn).2.1, upd_same, (rps_app h2 h2').kp E.zs (Kp.refl.nw hn)⟩)⟩
theorem catT {xs ys : List B} (hl : xs.length + ys.length ≤ sizeLine) (q : Post (.tup (xs ++ ys))) : bwR2 G K (rCatA K) (.tup xs) (.tup ys) Post := fun W Γ σ H v u Q E r1 r2 k => by
  obtain ⟨p, vs, rfl, h1, h2⟩ := rp_tup.mp r1
  obtain ⟨p', vs', rfl, h1', h2'⟩ := rp_tup.mp r2
  refine ⟨p, p', vs, vs', rfl, rfl, h1.sq, h1'.sq, by rw [← rps_len h2, ← rps_len h2']; exact hl, fun e => ?_, fun _ e => ?_, fun _ _ np hn => k _ _ _ q (Kp.refl.nw hn) (E.nw hn) (rp_tup.mpr ⟨np, _, rfl, .inl ⟨upd_same, (E.fresh hn).2.1⟩, (rps_app h2 h2').kp E.zs (Kp.refl.nw hn)⟩)⟩
  · subst e
    have : xs = [] := List.eq_nil_of_length_eq_zero (rps_len h2)
    subst this
    exact k _ _ H q Kp.refl E r2
  · subst e
    have : ys = [] := List.eq_nil_of_length_eq_zero (rps_len h2')
    subst this
    rw [List.append_nil] at q
    exact k _ _ H q Kp.refl E r1
theorem catS {x y : Str} (hl : x.length + y.length ≤ sizeLine) (q : Post (.str (x ++ y))) : bwR2 G K (fun x y H Q => ∃ i j, x = .str i ∧ y = .str j ∧ i.length + j.length ≤ sizeLine ∧ Q (.str (i ++ j)) H) (.str x) (.str y) Post := fun W Γ σ H v u Q E r1 r2 k =>
  ⟨x, y, rp_str.mp r1, rp_str.mp r2, hl, k _ _ H q Kp.refl E (rp_str.mpr rfl)⟩
/-! ### built-ins -/
theorem lenL {ds : List B} (q : Post (.int (ds.length : Nat))) : bwRA G K (SF.rLenQ K) [.lst ds] Post := fun W Γ σ H vs Q E r k => by
  obtain ⟨v, r, rfl, a1, a2⟩ := rps_cons.mp r
  obtain rfl := rps_nil.mp a2
  obtain ⟨p, vs, rfl, hz, h1, h2⟩ := rp_lst.mp a1
  refine SF.lenQl (SqL.of h1) (k _ _ H q Kp.refl E (rp_int.mpr ?_))
  rw [rps_len h2]
theorem lenT {ds : List B} (q : Post (.int (ds.length : Nat))) : bwRA G K (SF.rLenQ K) [.tup ds] Post := fun W Γ σ H vs Q E r k => by
  obtain ⟨v, r, rfl, a1, a2⟩ := rps_cons.mp r
  obtain rfl := rps_nil.mp a2
  obtain ⟨p, vs, rfl, h1, h2⟩ := rp_tup.mp a1
  refine SF.lenQt h1.sq (k _ _ H q Kp.refl E (rp_int.mpr ?_))
  rw [rps_len h2]
theorem lenS {z : Str} (hz : z.length ≤ 1000000) (q : Post (.int (z.length : Nat))) : bwRA G K SF.rLenT [.str z] Post := fun W Γ σ H vs Q E r k => by
  obtain ⟨v, r, rfl, a1, a2⟩ := rps_cons.mp r
  obtain rfl := rps_nil.mp a2
  rw [rp_str.mp a1]
  exact SF.lenTt hz (k _ _ H q Kp.refl E (rp_int.mpr rfl))
/-- len of a name's own list -/
theorem lenO {i : Nat} {ds : List B} (h : Γ[i]? = some (.ow (.lst ds))) (q : Post (.int (ds.length : Nat))) : bwE G K (tCB (SF.rLenQ K) (tCons (tVar i) tNil)) Γ Post := fun W σ H Q E k => by
  obtain ⟨p, h1, h2, h3, vs, h4, h5⟩ := E.ow i _ h
  refine RD.cb (RD.cons (RD.var h1 (RD.nil (SF.lenQl (SqL.of h4) (k _ _ H q Kp.refl E (rp_int.mpr ?_))))))
  rw [rps_len h5]
/-- an item of a name's own list -/
theorem ixO {i : Nat} {ds : List B} {tj : TE} (h : Γ[i]? = some (.ow (.lst ds))) (q : bwE G K tj Γ fun y => ∃ j d, y = .int j ∧ atI ds j = some d ∧ Post d) : bwE G K (tOp (rIxL K) (tVar i) tj) Γ Post := fun W σ H Q E k => by
  obtain ⟨p, h1, h2, h3, vs, h4, h5⟩ := E.ow i _ h
  refine RD.op (RD.var h1 (q W σ H _ E fun y u H1 py k1 E1 r1 => ?_))
  obtain ⟨j, d, rfl, hj, pd⟩ := py
  rw [rp_int.mp r1]
  obtain ⟨w, a1, a2⟩ := rps_atI h5 hj
  exact RD.ixL (SqL.of (k1 _ _ (E.noS h h1) h4)) a1 (k _ _ H1 pd k1 E1 (a2.kp E.zs k1))
theorem ty_rp {x : B} {v : V} (h : Rp K Z o H x v) (hx : isPlainB x = true) : TyX K H v (.type (ty x)) := by
  cases x with
  | non => rw [rp_non.mp h]; exact .base .non
  | bl b => rw [rp_bl.mp h]; exact .base (.bl b)
  | int i => rw [rp_int.mp h]; exact .base (.int i)
  | str y => rw [rp_str.mp h]; exact .base (.str y)
  | tup _ => obtain ⟨p, vs, rfl, h1, _⟩ := rp_tup.mp h; exact SF.ty_t h1.sq
  | lst _ => obtain ⟨p, vs, rfl, _, h1, _⟩ := rp_lst.mp h; exact .base (.lst h1)
  | dct _ _ =>
    obtain ⟨p, vs, rfl, _, h1, _⟩ := rp_dct.mp h
    rcases h1 with h1 | ⟨_, od, h1⟩
    · exact .base (.dK h1)
    · exact .fDict h1
  | src => cases hx
  | raw _ => cases hx
  | xc _ _ _ _ => cases hx
theorem kit_all : (["NoneType", "bool", "int", "str", "tuple", "list", "dict"].all fun T => ["bool", "int", "str", "tuple", "list", "dict"].all fun S => kitB T S == some (T == S || (T == "bool" && S == "int"))) = true := by decide +kernel
theorem ty_mem {x : B} (hx : isPlainB x = true) : ty x ∈ ["NoneType", "bool", "int", "str", "tuple", "list", "dict"] := by
  cases x <;> first
    | (cases hx; done)
    | (simp [ty])
theorem kit_is {x : B} {S : String} (hx : isPlainB x = true) (hS : S ∈ ["bool", "int", "str", "tuple", "list", "dict"]) : PySem.W.kitOne K (.type (ty x)) (.type S) = some (isTy x S) := by
  refine kit_ty ?_
  have := List.all_eq_true.mp (List.all_eq_true.mp kit_all _ (ty_mem hx)) _ hS
  exact eq_of_beq this
theorem isi {x : B} {S : String} (hS : S ∈ ["bool", "int", "str", "tuple", "list", "dict"]) (hx : isPlainB x = true) (q : Post (.bl (isTy x S))) : bwRA G K (rIsi K) [x, .raw (.ty S)] Post := fun W Γ σ H vs Q E r k => by
  obtain ⟨v, r, rfl, a1, a2⟩ := rps_cons.mp r
  obtain ⟨v2, r2, rfl, b1, b2⟩ := rps_cons.mp a2
  obtain rfl := rps_nil.mp b2
  rw [rp_raw.mp b1]
  exact SF.isi_go (ty_rp a1 hx) (kit_is hx hS) (k _ _ H q Kp.refl E (rp_bl.mpr rfl))
theorem rps_bls {bs : List Bool} : ∀ {vs : List V}, Rps K Z o H (bs.map B.bl) vs → vs = bs.map V.bl := by
  induction bs with
  | nil => intro vs h; exact rps_nil.mp h
  | cons b bs ih =>
    intro vs h
    obtain ⟨v, r, rfl, a1, a2⟩ := rps_cons.mp h
    rw [rp_bl.mp a1, ih a2]
    rfl
theorem rps_strs {ss : List Str} : ∀ {vs : List V}, Rps K Z o H (ss.map B.str) vs → vs = ss.map V.str := by
  induction ss with
  | nil => intro vs h; exact rps_nil.mp h
  | cons b bs ih =>
    intro vs h
    obtain ⟨v, r, rfl, a1, a2⟩ := rps_cons.mp h
    rw [rp_str.mp a1, ih a2]
    rfl
theorem strs_rps : ∀ {ss : List Str}, Rps K Z o H (ss.map B.str) (ss.map V.str)
  | [] => rps_nil.mpr rfl
  | s :: ss => rps_cons.mpr ⟨.str s, ss.map V.str, rfl, rp_str.mpr rfl, strs_rps⟩
theorem all_ {bs : List Bool} (q : Post (.bl (bs.all id))) : bwRA G K (rAll K) [.lst (bs.map B.bl)] Post := fun W Γ σ H vs Q E r k => by
  obtain ⟨v, r, rfl, a1, a2⟩ := rps_cons.mp r
  obtain rfl := rps_nil.mp a2
  obtain ⟨p, vs, rfl, hz, h1, h2⟩ := rp_lst.mp a1
  exact ⟨p, bs, rfl, SqL.of (by rw [h1, rps_bls h2]), k _ _ H q Kp.refl E (rp_bl.mpr rfl)⟩
theorem any_ {bs : List Bool} (q : Post (.bl (bs.any id))) : bwRA G K (rAny K) [.lst (bs.map B.bl)] Post := fun W Γ σ H vs Q E r k => by
  obtain ⟨v, r, rfl, a1, a2⟩ := rps_cons.mp r
  obtain rfl := rps_nil.mp a2
  obtain ⟨p, vs, rfl, hz, h1, h2⟩ := rp_lst.mp a1
  exact ⟨p, bs, rfl, SqL.of (by rw [h1, rps_bls h2]), k _ _ H q Kp.refl E (rp_bl.mpr rfl)⟩
theorem int1 {i : Int} (q : Post (.int i)) : bwRA G K (fun xs H Q => (∃ i, xs = [.int i] ∧ Q (.int i) H) ∨ ∃ k, xs = [.bl k] ∧ Q (.int (if k then 1 else 0)) H) [.int i] Post := fun W Γ σ H vs Q E r k => by
  obtain ⟨v, r, rfl, a1, a2⟩ := rps_cons.mp r
  obtain rfl := rps_nil.mp a2
  rw [rp_int.mp a1]
  exact .inl ⟨i, rfl, k _ _ H q Kp.refl E (rp_int.mpr rfl)⟩
theorem strI {i : Int} (hi : i.natAbs.log2 < 1920) (q : Post (.str (toString i))) : bwRA G K (fun xs H Q => ∃ i, xs = [.int i] ∧ i.natAbs.log2 < 1920 ∧ Q (.str (toString i)) H) [.int i] Post := fun W Γ σ H vs Q E r k => by
  obtain ⟨v, r, rfl, a1, a2⟩ := rps_cons.mp r
  obtain rfl := rps_nil.mp a2
  rw [rp_int.mp a1]
  exact ⟨i, rfl, hi, k _ _ H q Kp.refl E (rp_str.mpr rfl)⟩
theorem min2 {i j : Int} (q : Post (.int (if j < i then j else i))) : bwRA G K (fun xs H Q => ∃ i j, xs = [.int i, .int j] ∧ Q (.int (if j < i then j else i)) H) [.int i, .int j] Post := fun W Γ σ H vs Q E r k => by
  obtain ⟨v, r, rfl, a1, a2⟩ := rps_cons.mp r
  obtain ⟨v2, r2, rfl, b1, b2⟩ := rps_cons.mp a2
  obtain rfl := rps_nil.mp b2
  rw [rp_int.mp a1, rp_int.mp b1]
  exact ⟨i, j, rfl, k _ _ H q Kp.refl E (rp_int.mpr rfl)⟩
theorem listOfL {ds : List B} (q : Post (.lst ds)) : bwRA G K (fun xs H Q => ∃ p ys, xs = [.ref p] ∧ (SqL K H p ys ∨ SqT K H p ys) ∧ ∀ l, H l = none → Q (.ref l) (upd H l (.lst ys))) [.lst ds] Post := fun W Γ σ H vs Q E r k => by
  obtain ⟨v, r, rfl, a1, a2⟩ := rps_cons.mp r
  obtain rfl := rps_nil.mp a2
  obtain ⟨p, vs, rfl, hz, h1, h2⟩ := rp_lst.mp a1
  exact ⟨p, vs, rfl, .inl (SqL.of h1), fun np hn => k _ _ _ q (Kp.refl.nw hn) (E.nw hn) (rp_lst.mpr ⟨np, _, rfl, (E.fresh hn).2.1, upd_same, h2.kp E.zs (Kp.refl.nw hn)⟩)⟩
theorem listOfT {ds : List B} (q : Post (.lst ds)) : bwRA G K (fun xs H Q => ∃ p ys, xs = [.ref p] ∧ (SqL K H p ys ∨ SqT K H p ys) ∧ ∀ l, H l = none → Q (.ref l) (upd H l (.lst ys))) [.tup ds] Post := fun W Γ σ H vs Q E r k => by
  obtain ⟨v, r, rfl, a1, a2⟩ := rps_cons.mp r
  obtain rfl := rps_nil.mp a2
  obtain ⟨p, vs, rfl, h1, h2⟩ := rp_tup.mp a1
  exact ⟨p, vs, rfl, .inr h1.sq, fun np hn => k _ _ _ q (Kp.refl.nw hn) (E.nw hn) (rp_lst.mpr ⟨np, _, rfl, (E.fresh hn).2.1, upd_same, h2.kp E.zs (Kp.refl.nw hn)⟩)⟩
theorem tupOfL {ds : List B} (q : Post (.tup ds)) : bwR1 G K (kTup K) (.lst ds) Post := fun W Γ σ H v Q E r k => by
  obtain ⟨p, vs, rfl, hz, h1, h2⟩ := rp_lst.mp r
  exact .inl ⟨p, vs, rfl, SqL.of h1, fun np hn => k _ _ _ q (Kp.refl.nw hn) (E.nw hn) (rp_tup.mpr ⟨np, _, rfl, .inl ⟨upd_same, (E.fresh hn).2.1⟩, h2.kp E.zs (Kp.refl.nw hn)⟩)⟩
theorem tupOfT {ds : List B} (q : Post (.tup ds)) : bwR1 G K (kTup K) (.tup ds) Post := fun W Γ σ H v Q E r k => by
  obtain ⟨p, vs, rfl, h1, h2⟩ := rp_tup.mp r
  exact .inr ⟨p, vs, rfl, h1.sq, k _ _ _ q Kp.refl E r⟩
/-! ### texts -/
theorem strJoin (h1 : bwE G K ta Γ fun x => ∃ a : Str, x = .str a ∧ bwE G K tb Γ fun y => ∃ ss : List Str, y = .lst (ss.map B.str) ∧ (ss.map (·.length)).sum + ss.length * a.length ≤ 16777216 ∧ Post (.str (Txt.join a ss))) :
    bwE G K (tM1 (fun x xs H Q => ∃ a p, ∃ ys : List Str, x = .str a ∧ xs = [.ref p] ∧ (SqL K H p (ys.map V.str) ∨ SqT K H p (ys.map V.str)) ∧ (ys.map (·.length)).sum + ys.length * a.length ≤ 16777216 ∧ Q (.str (Txt.join a ys)) H) ta tb) Γ Post := fun W σ H Q E k => by
  refine h1 W σ H _ E fun x v H1 p1 k1 E1 r1 => ?_
  obtain ⟨a, rfl, p1⟩ := p1
  refine ⟨⟨a, rp_str.mp r1⟩, p1 W σ H1 _ E1 fun y u H2 p2 k2 E2 r2 => ?_⟩
  obtain ⟨ss, rfl, hl, q⟩ := p2
  obtain ⟨p, vs, rfl, hz, e1, e2⟩ := rp_lst.mp r2
  exact ⟨a, p, ss, rp_str.mp r1, rfl, .inl (SqL.of (by rw [e1, rps_strs e2])), hl, k _ _ H2 q (k1.trans k2) E2 (rp_str.mpr rfl)⟩
end
end BV

set_option Elab.async false
set_option linter.all false
set_option maxRecDepth 100000
set_option maxHeartbeats 4000000
/-! by value: more of comprehensions, texts, tables of texts; where a law starts -/
namespace BV
open PySem PySem.Spec PyProof.Rows L2 G0
theorem exBl {b : Bool} {F : Bool → Prop} (q : F b) : ∃ c, B.bl b = .bl c ∧ F c := ⟨b, rfl, q⟩
theorem exInt {b : Int} {F : Int → Prop} (q : F b) : ∃ c, B.int b = .int c ∧ F c := ⟨b, rfl, q⟩
theorem exLst {b : List B} {F : List B → Prop} (q : F b) : ∃ c, B.lst b = .lst c ∧ F c := ⟨b, rfl, q⟩
theorem exTup {b : List B} {F : List B → Prop} (q : F b) : ∃ c, B.tup b = .tup c ∧ F c := ⟨b, rfl, q⟩
theorem exStr {b : Str} {F : Str → Prop} (q : F b) : ∃ c, B.str b = .str c ∧ F c := ⟨b, rfl, q⟩
theorem exZip {x y : List B} {F : List B → List B → Prop} (q : F x y) : ∃ xs ys, [B.tup x, B.tup y] = [.tup xs, .tup ys] ∧ F xs ys := ⟨x, y, rfl, q⟩
theorem cut1 {α : Type} {x : α} {r : List α} : cutB (x :: r) (some 1) none = r := by
  unfold cutB
  have e1 : HT.sIx (x :: r).length 0 (some 1) = 1 := by
    have e2 : HT.sIx (x :: r).length 0 (some 1) = min 1 (x :: r).length := HT.sIx_nat _ _ 1
    rw [e2, List.length_cons]
    omega
  rw [HT.sIx_none, e1]
  show (r.take _) = r
  rw [List.length_cons]
  exact List.take_of_length_le (by omega)
theorem cut_lo {α : Type} {xs : List α} {n : Nat} : cutB xs (some (n : Int)) none = xs.drop n := by
  unfold cutB
  have e1 : HT.sIx xs.length 0 (some (n : Int)) = min n xs.length := HT.sIx_nat _ _ n
  rw [HT.sIx_none, e1]
  rcases Nat.le_total n xs.length with h | h
  · rw [Nat.min_eq_left h]
    exact List.take_of_length_le (by rw [List.length_drop]; omega)
  · rw [Nat.min_eq_right h, List.drop_of_length_le (Nat.le_refl _), List.drop_of_length_le h, List.take_nil]
theorem cut_hi {α : Type} {xs : List α} {n : Nat} : cutB xs none (some (n : Int)) = xs.take n := by
  unfold cutB
  have e1 : HT.sIx xs.length xs.length (some (n : Int)) = min n xs.length := HT.sIx_nat _ _ n
  rw [HT.sIx_none, e1, List.drop_zero, Nat.sub_zero]
  rcases Nat.le_total n xs.length with h | h
  · rw [Nat.min_eq_left h]
  · rw [Nat.min_eq_right h, List.take_of_length_le (Nat.le_refl _), List.take_of_length_le h]
theorem at_n {α : Type} {xs : List α} {n : Nat} {x : α} (h : xs[n]? = some x) : atI xs (n : Int) = some x := atI_nat h
section
variable {G : DK} {K : PySem.W.Frag} {W : Wd} {Γ : List Cell} {σ : L2.St} {H H' H1 : Hp} {Post P : B → Prop} {te ta tb : TE} {t tr : TA} {Z : AS} {o : Sr} {e : En} {wi : TI} {g : TG} {ws : List Nat}
/-- each item gives what Rl lets -/
theorem lcRel (h : bwI G K wi Γ fun ds => ds.length ≤ sizeLine ∧ ∃ Rl : B → B → Prop, (∀ (k : Nat) (d : B), ds[k]? = some d → bwGv G K ws g d (wipeC Γ ws) fun g' => bwE G K te g' fun y => Rl d y) ∧ ∀ ys, ys.length = ds.length → (∀ (i : Nat) (d y : B), ds[i]? = some d → ys[i]? = some y → Rl d y) → Post (.lst ys)) : bwN G K (tLc wi g tYes te ws) Γ Post := by
  refine lcN fun W σ H R E q => h W σ H R E fun ds tm t2 J H' p => q ds tm t2 J H' ?_
  obtain ⟨hz, Rl, hs, hd⟩ := p
  refine ⟨fun k acc => k ≤ ds.length ∧ acc.length = k ∧ ∀ (i : Nat) (d y : B), ds[i]? = some d → acc[i]? = some y → Rl d y, ⟨Nat.zero_le _, rfl, fun i d y _ h => by simp at h⟩, fun k d acc hk ⟨h1, h2, h3⟩ => ?_, fun acc ⟨h1, h2, h3⟩ => hd acc h2 h3⟩
  have hlt := (List.getElem?_eq_some_iff.mp hk).1
  refine fun W σ H v QS E r q => hs k d hk W σ H v QS E r fun Γ' σ' p => q Γ' σ' (yes ?_)
  rw [if_pos rfl]
  refine p.mono fun y hy => ⟨by omega, hlt, by rw [List.length_append, h2]; rfl, fun i d' y' a b => ?_⟩
  rcases Nat.lt_or_ge i acc.length with hi | hi
  · rw [List.getElem?_append_left hi] at b
    exact h3 i d' y' a b
  · rw [List.getElem?_append_right hi] at b
    have : i = k := by
      have := (List.getElem?_eq_some_iff.mp b).1
      have e : [y].length = 1 := rfl
      omega
    subst this
    rw [hk] at a
    rw [h2, Nat.sub_self] at b
    obtain rfl : d = d' := Option.some.inj a
    obtain rfl : y = y' := by simpa using b
    exact hy
/-- .. its own -/
theorem lcMap (f : B → B) (h : bwI G K wi Γ fun ds => ds.length ≤ sizeLine ∧ (∀ (k : Nat) (d : B), ds[k]? = some d → bwGv G K ws g d (wipeC Γ ws) fun g' => bwE G K te g' fun y => y = f d) ∧ Post (.lst (ds.map f))) : bwN G K (tLc wi g tYes te ws) Γ Post := by
  refine lcRel fun W σ H R E q => h W σ H R E fun ds tm t2 J H' p => q ds tm t2 J H' ⟨p.1, fun d y => y = f d, p.2.1, fun ys hl hy => ?_⟩
  have : ys = ds.map f := by
    refine List.ext_getElem? fun i => ?_
    rw [List.getElem?_map]
    rcases Nat.lt_or_ge i ds.length with hi | hi
    · rw [List.getElem?_eq_getElem hi, List.getElem?_eq_getElem (by omega)]
      exact congrArg some (hy i _ _ (List.getElem?_eq_getElem hi) (List.getElem?_eq_getElem (by omega)))
    · rw [List.getElem?_eq_none hi, List.getElem?_eq_none (by omega)]
      rfl
  rw [this]
  exact p.2.2
theorem bm0S {f : Str → Bool} (h : bwE G K ta Γ fun x => ∃ z, x = .str z ∧ Post (.bl (f z))) : bwE G K (tBM0 K "str" (fun x xs H Q => ∃ a, x = .str a ∧ xs = [] ∧ True ∧ Q (.bl (f a)) H) ta) Γ Post := fun W σ H Q E k =>
  RD.bm0 (h W σ H _ E fun x v H1 p k1 E1 r1 => by
    obtain ⟨z, rfl, p⟩ := p
    rw [rp_str.mp r1]
    exact ⟨rfl, z, rfl, rfl, trivial, k _ _ H1 p k1 E1 (rp_bl.mpr rfl)⟩)
/-! ### x in a tuple of data -/
def rInDT (K : PySem.W.Frag) : R2 := fun x y H Q => ∃ d ds, Dp K H x d ∧ Dp K H y (.tuple ds) ∧ SeqAt.shaped d = true ∧ SeqAt.shaped (.tuple ds) = true ∧ Q (.bl (ds.any fun z => PyData.eqv z d)) H
theorem op_inDT {X : Cx} (hu : X.A.units + 65 < cLine) : OpR X (compareOp .In) (rInDT X.K) := by
  intro pins s σ H x y v u Q I rx ry h
  obtain ⟨d, ds, hd, he, sd, se, q⟩ := h
  obtain ⟨as, r1⟩ := Dp.reads I d x v hd rx
  obtain ⟨bs, r2⟩ := Dp.reads I (.tuple ds) y u he ry
  exact SeqAt.in_tuple_reads r2 r1 (SeqAt.canLay_of_shaped se) (SeqAt.canLay_of_shaped sd) (room_in_shaped sd hu) ⟨.bl _, H, I, rfl, q⟩
theorem inDT {x : B} {ds : List B} (hx : SeqAt.shaped (py x) = true) (hy : SeqAt.shaped (py (.tup ds)) = true) (q : Post (.bl ((pys ds).any fun z => PyData.eqv z (py x)))) : bwR2 G K (rInDT K) x (.tup ds) Post := fun W Γ σ H v u Q E r1 r2 k => by
  have e : py (.tup ds) = .tuple (pys ds) := by rw [py]
  rw [e] at hy
  exact ⟨py x, pys ds, r1.dp (.inl hx), e ▸ r2.dp (.inl (by rw [e]; exact hy)), hx, hy, k _ _ H q Kp.refl E (rp_bl.mpr rfl)⟩
/-! ### a name's own dict -/
theorem dNew (q : Post (.dct [] [])) : bwN G K tDNewK Γ Post := fun W σ H Q E k => fun p hp => by
  obtain ⟨f1, f2, f3⟩ := E.fresh hp
  exact k _ p _ q (Kp.refl.nw hp) (E.plus hp) f1 f3 f2 ⟨[], upd_same, rfl, rps_nil.mpr rfl⟩
end
/-! ### where a law starts: the state of the draws is there -/
theorem env0 {G : DK} {K : PySem.W.Frag} {H : Hp} {st cl : Addr} {Γ : List Cell} {σ : L2.St} (hw : ∀ H Z o, G.wok H Z o) (hD : G.D H st cl) (hl : Γ.length = σ.length) (h : ∀ (i : Nat) (c : Cell), Γ[i]? = some c → c = .no ∨ (c = .sh .src ∧ σ[i]? = some (some (.ref st)))) : Env G K ⟨H, fun p => p = st, ⟨some (st, cl), fun _ => False⟩, [], [], H, fun p => p = st⟩ Γ σ H := by
  have noO : ∀ p, ¬ ownA Γ σ p := fun p ⟨i, b, h1, _⟩ => by
    rcases h i _ h1 with z | ⟨z, _⟩ <;> cases z
  refine ⟨hl, fun s c e => ?_, fun s c e => ?_, Kp.refl, fun p hp => ?_, fun b v hb => (List.not_mem_nil hb).elim, fun i b hb => ?_, fun i b hb => ?_, fun i j b c p h1 _ _ _ => ?_, fun _ _ z => z, hw _ _ _, Kp.refl, fun p hp => ⟨hp, by rw [show p = st from hp]; exact G.st hD⟩, fun a u h => (List.not_mem_nil h).elim⟩
  · cases e
    exact hD
  · cases e
    exact ⟨rfl, fun z => z.elim (fun z => G.ne hD z) fun z => noO _ z⟩
  · rw [show p = st from hp]
    exact G.st hD
  · rcases h i _ hb with z | ⟨z, e⟩
    · cases z
    · cases z
      exact ⟨_, e, rp_src.mpr ⟨st, ⟨cl, rfl⟩, rfl⟩⟩
  · rcases h i _ hb with z | ⟨z, _⟩ <;> cases z
  · rcases h i _ h1 with z | ⟨z, _⟩ <;> cases z
/-- .. and runs on -/
theorem run0 {G : DK} {K : PySem.W.Frag} {H : Hp} {st cl : Addr} {σ : L2.St} {Q : VK} {ts : TS} (Γ : List Cell) (hw : ∀ H Z o, G.wok H Z o) (hD : G.D H st cl) (hl : Γ.length = σ.length) (h : ∀ (i : Nat) (c : Cell), Γ[i]? = some c → c = .no ∨ (c = .sh .src ∧ σ[i]? = some (some (.ref st)))) (R : B → Prop)
    (k : bwS G K ts Γ ⟨fun _ => R .non, R, fun _ => False, fun _ => False⟩) (q : ∀ b v H', R b → Fin G K ⟨H, fun p => p = st, ⟨some (st, cl), fun _ => False⟩, [], [], H, fun p => p = st⟩ H' b v → Q v H') : ts { nx := fun _ H' => Q .non H', rt := Q } σ H :=
  k _ _ H _ (env0 hw hD hl h) (fun Γ' σ' H' r E' => q .non .non H' r ⟨E'.kp, E'.dok, rp_non.mpr rfl⟩) (fun b v H' r f => q b v H' r f) (fun _ _ _ f _ => f.elim) (fun _ _ _ f _ => f.elim)
end BV

set_option Elab.async false
set_option linter.all false
set_option maxRecDepth 100000
set_option maxHeartbeats 4000000
/-! rules of our own: list(d.values()) -/
namespace G7
open PySem PySem.Spec PyProof.Rows L2
section
variable {X : Cx} {o : Expr} {p pos apos mpos : Pos} {td : TE}
/-- list(d.values()) -/
def tListV (td : TE) : TE := fun σ H Q => td σ H fun x H1 => ∃ (a : Addr) (kvs : List (Key × V)), x = V.ref a ∧ H1 a = some (.dK kvs) ∧ ∀ q, H1 q = none → Q (.ref q) (upd H1 q (.lst (kvs.map (·.2))))
theorem pe_listVals (hc : X.calm = true) (hg : Gl X "list") (hm : X.mg "list" = none) (hd : PE X o td) (hbase : attributeBase o "values" X.env (eval o X.env) = eval o X.env := by rfl) (hline : (apos.endLine == mpos.line) = true := by rfl)
    (na : starEach [Expr.Call (.Attribute o "values" apos) [] [] mpos] X.env = (false, eval (Expr.Call (.Attribute o "values" apos) [] [] mpos) X.env) :: starEach [] X.env := by rfl) :
    PE X (.Call (.Name "list" p) [.Call (.Attribute o "values" apos) [] [] mpos] [] pos) (tListV td) := by
  refine ⟨fun pins s σ H Q I h => ?_⟩
  refine Call_ (ld_blt I hg hm (by first | exact PyProof.Rows.boot_list | decide +kernel) (PyProof.Rows.callWith_type1 (args_cons (wpAny_Call_method0_late hbase hline (thn (hd.run pins s σ H _ I h) fun v s1 ⟨x, H1, I1, r1, a, kvs, ex, ha, q⟩ => ?_)) na) na))
  subst ex
  obtain rfl : v = Value.ref a := r1
  obtain ⟨hsz0, hsys, vs, rel, dof⟩ := dk_of I1.hok ha
  obtain ⟨ep, dat⟩ := dof.dictAt
  have dat' := dat
  obtain ⟨ob, es, ho, ex, hdat, hko, hpr, hnd⟩ := dat'
  refine ⟨"dict", "dict.values", PySem.F.plainAttrs_dict, PySem.F.slot_dict_values, PySem.F.type_dict_values, ⟨ob, ho, ex.1⟩, fun b e => ?_, Calls.callWith_builtin rfl (PySem.evalArgs_none ?_)⟩
  · cases e
    exact ⟨ob, ho, ex.2.1⟩
  refine call_meetsIn PySem.F.slot_dict_values ⟨ob, ho, ex.1⟩ PySem.F.entry_dict_values (PySem.F.args_dict_values_1 _) (meets_dict_values (mixKind X.prog X.w) a hsys) ⟨⟨vs, dof⟩, args_nil ?_⟩
  have k1 : ∀ b u, s1.heap.get? b = some u → (s1.heap.push { cls := .type "dict_values", data := .fields #[.ref a] }).get? b = some u := fun b u e => Heap.get?_push_of_some _ e
  have hl : kvs.length = vs.length := KV.length rel
  have hsz : (s1.heap.push { cls := .type "dict_values", data := .fields #[.ref a] }).objs.size = s1.heap.objs.size + 1 := Heap.size_push _ _
  refine PySem.W.kdl_call (PySem.W.kdl_values (knd := mixKind X.prog X.w) (kvs := vs) (ep := ep)) (I.ok.hd hc) ⟨⟨_, Heap.get?_push_size _ rfl, rfl, rfl⟩, dat.keep k1⟩ (by rw [← hl]; exact hsz0) fun h' tk acc' c' hkeep hS hacc => ?_
  refine ⟨.ref _, upd H1 _ (.lst (kvs.map (·.2))), I1.laid (fun b u e => hkeep b u (k1 b u e)) (show s1.heap.objs.size ≤ _ by show s1.heap.objs.size ≤ (s1.heap.push _).objs.size; rw [hsz]; exact Nat.le_succ _) (show ObjOk X.prog X.w _ _ _ (.lst (kvs.map (·.2))) from ⟨by rw [List.length_map]; exact hsz0, acc'.toList, c', ?_, by rw [Array.toArray_toList]; exact hS⟩), rfl, q _ (I1.hok.fresh (by show s1.heap.objs.size ≤ (s1.heap.push _).objs.size; rw [hsz]; exact Nat.le_succ _))⟩
  have el : acc'.toList.length = acc'.size := by simp
  refine vals_of_at (by rw [List.length_map, el, hacc.1, hl]) fun j x w h1 h2 => ?_
  obtain ⟨k, hky⟩ := hacc.2 j w (by rw [← Array.getElem?_toList]; exact h2)
  obtain ⟨y, e1, e2⟩ := KV.at' rel hky
  have e3 : (kvs.map (·.2))[j]? = some y := by rw [List.getElem?_map, e1] <;> rfl
  rw [e3] at h1
  cases h1
  exact e2
end
end G7

set_option Elab.async false
set_option linter.all false
set_option maxRecDepth 100000
set_option maxHeartbeats 4000000
/-! by value: dicts -/
namespace RD
theorem ifDT {A B : Prop} {b : Bool} (h : b = true) (q : A) : if b = true then A else B := by rw [if_pos h]; exact q
theorem ifDF {A B : Prop} {b : Bool} (h : b = false) (q : B) : if b = true then A else B := by rw [h, if_neg Bool.false_ne_true]; exact q
end RD
namespace BV
open PySem PySem.Spec PyProof.Rows L2 G0
def keyB : Key → B
  | .inl i => .int i
  | .inr x => .str x
def getB (ks : List Key) (ds : List B) (k : Key) : Option B := ((ks.zip ds).find? fun q => decide (q.1 = k)).map (·.2)
def hasB (ks : List Key) (k : Key) : Bool := ks.any fun a => decide (a = k)
def putB (ks : List Key) (ds : List B) (k : Key) (d : B) : List Key × List B := if hasB ks k = true then (ks, (ks.zip ds).map fun q => if q.1 = k then d else q.2) else (ks ++ [k], ds ++ [d])
def mergeB (acc : List Key × List B) (ps : List (Key × B)) : List Key × List B := ps.foldl (fun a q => putB a.1 a.2 q.1 q.2) acc
section
variable {G : DK} {K : PySem.W.Frag} {W : Wd} {Γ : List Cell} {σ : L2.St} {H H' H1 : Hp} {Post P : B → Prop} {te ta tb td ty tk tv : TE} {t tr : TA} {Z : AS} {o : Sr} {e : En} {wi : TI} {g : TG} {tt : TT} {ws : List Nat} {ks : List Key} {ds : List B}
theorem rp_key {k : Key} {v : V} (h : Rp K Z o H (keyB k) v) : v = kV k := by
  cases k with
  | inl i => exact rp_int.mp h
  | inr x => exact rp_str.mp h
theorem key_rp {k : Key} : Rp K Z o H (keyB k) (kV k) := by
  cases k with
  | inl i => exact rp_int.mpr rfl
  | inr x => exact rp_str.mpr rfl
theorem get_zip {k : Key} : ∀ {ks : List Key} {ds : List B} {vs : List V}, ks.length = vs.length → Rps K Z o H ds vs → (getB ks ds k = none → valV (ks.zip vs) k = none) ∧ ∀ d, getB ks ds k = some d → ∃ v, valV (ks.zip vs) k = some v ∧ Rp K Z o H d v
  | [], ds, vs, hl, r => ⟨fun _ => rfl, fun d h => (by cases h)⟩
  | a :: ks, ds, vs, hl, r => by
    cases vs with
    | nil => cases hl
    | cons v vs =>
      cases ds with
      | nil => have := rps_len r; cases this
      | cons d ds =>
        obtain ⟨v', r', e, r1, r2⟩ := rps_cons.mp r
        cases e
        obtain ⟨i1, i2⟩ := get_zip (k := k) (ks := ks) (Nat.succ.inj hl) r2
        unfold getB valV
        rw [List.zip_cons_cons, List.zip_cons_cons, List.find?_cons, List.find?_cons]
        by_cases ha : a = k
        · rw [decide_eq_true ha]
          refine ⟨fun h => (by cases h), fun d' h => ⟨v, rfl, ?_⟩⟩
          rw [← Option.some.inj h]
          exact r1
        · rw [decide_eq_false ha]
          exact ⟨i1, i2⟩
theorem put_zip {k : Key} {d : B} {v : V} {vs : List V} (hl : ks.length = vs.length) (r : Rps K Z o H ds vs) (rd : Rp K Z o H d v) : ∃ vs', putK (ks.zip vs) k v = (putB ks ds k d).1.zip vs' ∧ (putB ks ds k d).1.length = vs'.length ∧ Rps K Z o H (putB ks ds k d).2 vs' := by
  have hl2 : ds.length = vs.length := rps_len r
  have hany : ((ks.zip vs).any fun kv => decide (kv.1 = k)) = hasB ks k := by
    unfold hasB
    clear hl2 r
    induction ks generalizing vs with
    | nil => rfl
    | cons a ks ih =>
      cases vs with
      | nil => cases hl
      | cons u vs => rw [List.zip_cons_cons, List.any_cons, List.any_cons, ih (Nat.succ.inj hl)]
  unfold putK putB
  rw [hany]
  by_cases hk : hasB ks k = true
  · rw [if_pos hk, if_pos hk]
    refine ⟨(ks.zip vs).map fun q => if q.1 = k then v else q.2, ?_, by rw [List.length_map, List.length_zip]; show ks.length = _; omega, ?_⟩
    · clear hany hk hl2 r
      induction ks generalizing vs with
      | nil => rfl
      | cons a ks ih =>
        cases vs with
        | nil => cases hl
        | cons u vs =>
          have := ih (vs := vs) (Nat.succ.inj hl)
          simp only [List.zip_cons_cons, List.map_cons]
          rw [← this]
          congr 1
          by_cases h : a = k <;> simp [h]
    · clear hany hk
      induction ks generalizing vs ds with
      | nil => exact rps_nil.mpr rfl
      | cons a ks ih =>
        cases vs with
        | nil => cases hl
        | cons u vs =>
          cases ds with
          | nil => cases hl2
          | cons d' ds =>
            obtain ⟨v', r', e, r1, r2⟩ := rps_cons.mp r
            cases e
            refine rps_cons.mpr ⟨_, _, rfl, ?_, ih (Nat.succ.inj hl) r2 (Nat.succ.inj hl2)⟩
            by_cases h : a = k
            · simp only [h, if_true]
              exact rd
            · simp only [h, if_false]
              exact r1
  · rw [if_neg hk, if_neg hk]
    refine ⟨vs ++ [v], ?_, by rw [List.length_append, List.length_append, hl]; rfl, rps_app r (rps_one rd)⟩
    rw [List.zip_append hl]
    rfl
theorem dct_rd {p : Addr} {vs : List V} (h : H p = some (.dK (ks.zip vs)) ∨ (o.L p ∧ ∃ od, H p = some (.frz od (.dK (ks.zip vs))))) : Rd H p (.dK (ks.zip vs)) := h.elim .inl fun ⟨_, od, h⟩ => .inr ⟨od, h⟩
theorem dget (h : bwE G K td Γ fun x => bwE G K ty Γ fun y => ∃ ks ds k d, x = .dct ks ds ∧ y = keyB k ∧ getB ks ds k = some d ∧ Post d) : bwE G K (tDGet td ty) Γ Post := fun W σ H Q E k =>
  RD.dget (h W σ H _ E fun x v H1 p1 k1 E1 r1 => p1 W σ H1 _ E1 fun y u H2 p2 k2 E2 r2 => by
    obtain ⟨ks, ds, kk, d, rfl, rfl, e, pd⟩ := p2
    obtain ⟨p, vs, rfl, hz, h1, hl, h2⟩ := rp_dct.mp (r1.kp E1.zs k2)
    obtain ⟨w, e1, e2⟩ := (get_zip hl h2).2 d e
    exact ⟨p, w, rfl, .inl ⟨_, kk, dct_rd h1, rp_key r2, e1.symm⟩, k d w H2 pd (k1.trans k2) E2 e2⟩)
theorem din (h : bwE G K ty Γ fun y => bwE G K td Γ fun x => ∃ ks ds k, x = .dct ks ds ∧ y = keyB k ∧ Post (.bl (getB ks ds k).isSome)) : bwE G K (tDIn ty td) Γ Post := fun W σ H Q E k =>
  RD.din (h W σ H _ E fun y u H1 p1 k1 E1 r1 => p1 W σ H1 _ E1 fun x v H2 p2 k2 E2 r2 => by
    obtain ⟨ks, ds, kk, rfl, rfl, pd⟩ := p2
    obtain ⟨p, vs, rfl, hz, h1, hl, h2⟩ := rp_dct.mp r2
    have hs : (valV (ks.zip vs) kk).isSome = (getB ks ds kk).isSome := by
      cases e : getB ks ds kk with
      | none => rw [(get_zip hl h2).1 e]; rfl
      | some d =>
        obtain ⟨w, e1, _⟩ := (get_zip hl h2).2 d e
        rw [e1]
        rfl
    refine ⟨p, _, rfl, .inl ⟨_, kk, dct_rd h1, rp_key r1, rfl⟩, ?_⟩
    rw [hs]
    exact k _ _ H2 pd (k1.trans k2) E2 (rp_bl.mpr rfl))
theorem dnotin (h : bwE G K ty Γ fun y => bwE G K td Γ fun x => ∃ ks ds k, x = .dct ks ds ∧ y = keyB k ∧ Post (.bl (!(getB ks ds k).isSome))) : bwE G K (tDNotIn ty td) Γ Post := fun W σ H Q E k =>
  (h W σ H _ E fun y u H1 p1 k1 E1 r1 => p1 W σ H1 _ E1 fun x v H2 p2 k2 E2 r2 => by
    obtain ⟨ks, ds, kk, rfl, rfl, pd⟩ := p2
    obtain ⟨p, vs, rfl, hz, h1, hl, h2⟩ := rp_dct.mp r2
    have hs : (valV (ks.zip vs) kk).isSome = (getB ks ds kk).isSome := by
      cases e : getB ks ds kk with
      | none => rw [(get_zip hl h2).1 e]; rfl
      | some d =>
        obtain ⟨w, e1, _⟩ := (get_zip hl h2).2 d e
        rw [e1]
        rfl
    refine ⟨p, _, rfl, .inl ⟨_, kk, dct_rd h1, rp_key r1, rfl⟩, ?_⟩
    rw [hs]
    exact k _ _ H2 pd (k1.trans k2) E2 (rp_bl.mpr rfl))
/-- in a name's own dict -/
theorem dinO {i : Nat} (h : Γ[i]? = some (.ow (.dct ks ds))) (q : bwE G K ty Γ fun y => ∃ k, y = keyB k ∧ Post (.bl (getB ks ds k).isSome)) : bwE G K (tDIn ty (tVar i)) Γ Post := fun W σ H Q E k =>
  RD.din (q W σ H _ E fun y u H1 p1 k1 E1 r1 => by
    obtain ⟨kk, rfl, pd⟩ := p1
    obtain ⟨p, h1, h2, h3, vs, h4, hl, h5⟩ := E1.ow i _ h
    have hs : (valV (ks.zip vs) kk).isSome = (getB ks ds kk).isSome := by
      cases e : getB ks ds kk with
      | none => rw [(get_zip hl h5).1 e]; rfl
      | some d =>
        obtain ⟨w, e1, _⟩ := (get_zip hl h5).2 d e
        rw [e1]
        rfl
    refine RD.var h1 ⟨p, _, rfl, .inl ⟨_, kk, .inl h4, rp_key r1, rfl⟩, ?_⟩
    rw [hs]
    exact k _ _ H1 pd k1 E1 (rp_bl.mpr rfl))
theorem dputO {i : Nat} (h : Γ[i]? = some (.ow (.dct ks ds))) (q : bwE G K tv Γ fun v => bwE G K ty Γ fun y => ∃ k, y = keyB k ∧ ks.length < sizeLine ∧ e.N (Γ.set i (.ow (.dct (putB ks ds k v).1 (putB ks ds k v).2)))) : bwS G K (sDPut (tVar i) ty tv) Γ e := fun W σ H D E q1 q2 q3 q4 =>
  (q W σ H _ E fun b v H1 p1 k1 E1 r1 => by
    obtain ⟨p, h1, _⟩ := E1.ow i _ h
    refine RD.var h1 (p1 W σ H1 _ E1 fun y u H2 p2 k2 E2 r2 => ?_)
    obtain ⟨kk, rfl, hz, pn⟩ := p2
    obtain ⟨p', h1', h2, h3, vs, h4, hl, h5⟩ := E2.ow i _ h
    rw [h1] at h1'
    cases h1'
    obtain ⟨vs', e1, e2, e3⟩ := put_zip (k := kk) hl h5 (r1.kp E1.zs k2)
    refine ⟨p, _, rfl, .inl ⟨_, kk, h4, rp_key r2, by rw [List.length_zip]; omega, rfl⟩, q1 _ _ _ pn (E2.mut h h1 ⟨vs', by rw [upd_same, e1], e2, e3.off ?_⟩)⟩
    exact fun b u _ n hb => by
      rw [upd_ne fun e => n (.inr ⟨i, _, h, by rw [e]; exact h1⟩)]
      exact hb)
/-- x = {} -/
theorem asgD0 {i : Nat} (h : e.N (Γ.set i (.ow (.dct [] [])))) : bwS G K (tAsg tDNewK (gName i)) Γ e := asgN (dNew h)
/-- x = [] -/
theorem asgL0 {i : Nat} (h : e.N (Γ.set i (.ow (.lst [])))) : bwS G K (tAsg (tLst tNil) (gName i)) Γ e := asgN (lstN (nil ⟨Nat.zero_le _, h⟩))
theorem dictOf (q : Post (.dct ks ds)) : bwRA G K (fun xs H Q => ∃ (a : Addr) (kvs : List (Key × V)), xs = [.ref a] ∧ Rd H a (.dK kvs) ∧ ∀ p, H p = none → Q (.ref p) (upd H p (.dK kvs))) [.dct ks ds] Post := fun W Γ σ H vs Q E r k => by
  obtain ⟨v, r, rfl, a1, a2⟩ := rps_cons.mp r
  obtain rfl := rps_nil.mp a2
  obtain ⟨p, vs, rfl, hz, h1, hl, h2⟩ := rp_dct.mp a1
  exact ⟨p, _, rfl, dct_rd h1, fun np hn => k _ _ _ q (Kp.refl.nw hn) (E.nw hn) (rp_dct.mpr ⟨np, vs, rfl, (E.fresh hn).2.1, .inl upd_same, hl, h2.kp E.zs (Kp.refl.nw hn)⟩)⟩
theorem zip_keys : ∀ {ks : List Key} {vs : List V}, ks.length = vs.length → ((ks.zip vs).map fun kv => kV kv.1) = ks.map kV
  | [], _, _ => rfl
  | a :: ks, v :: vs, h => by
    rw [List.zip_cons_cons, List.map_cons, List.map_cons, zip_keys (Nat.succ.inj h)]
theorem zip_vals : ∀ {ks : List Key} {vs : List V}, ks.length = vs.length → (ks.zip vs).map (·.2) = vs
  | [], [], _ => rfl
  | a :: ks, v :: vs, h => by
    rw [List.zip_cons_cons, List.map_cons, zip_vals (Nat.succ.inj h)]
theorem rps_keys : ∀ {ks : List Key}, Rps K Z o H (ks.map keyB) (ks.map kV)
  | [] => rps_nil.mpr rfl
  | a :: ks => rps_cons.mpr ⟨_, _, rfl, key_rp, rps_keys⟩
theorem listOfD (q : Post (.lst (ks.map keyB))) : bwRA G K (fun xs H Q => ∃ (a : Addr) (kvs : List (Key × V)), xs = [.ref a] ∧ Rd H a (.dK kvs) ∧ ∀ p, H p = none → Q (.ref p) (upd H p (.lst (kvs.map fun kv => kV kv.1)))) [.dct ks ds] Post := fun W Γ σ H vs Q E r k => by
  obtain ⟨v, r, rfl, a1, a2⟩ := rps_cons.mp r
  obtain rfl := rps_nil.mp a2
  obtain ⟨p, vs, rfl, hz, h1, hl, h2⟩ := rp_dct.mp a1
  exact ⟨p, _, rfl, dct_rd h1, fun np hn => k _ _ _ q (Kp.refl.nw hn) (E.nw hn) (rp_lst.mpr ⟨np, _, rfl, (E.fresh hn).2.1, by rw [upd_same, zip_keys hl], rps_keys⟩)⟩
theorem listVals (hU : G.U) (h : bwE G K td Γ fun x => ∃ ks ds, x = .dct ks ds ∧ Post (.lst ds)) : bwE G K (G7.tListV td) Γ Post := fun W σ H Q E k =>
  h W σ H _ E fun x v H1 p1 k1 E1 r1 => by
    obtain ⟨ks, ds, rfl, pd⟩ := p1
    obtain ⟨p, vs, rfl, hz, h1, hl, h2⟩ := rp_dct.mp r1
    rcases h1 with h1 | ⟨hL, _⟩
    · exact ⟨p, _, rfl, h1, fun np hn => k _ _ _ pd (k1.nw hn) (E1.nw hn) (rp_lst.mpr ⟨np, vs, rfl, (E1.fresh hn).2.1, by rw [upd_same, zip_vals hl], h2.kp E1.zs (Kp.refl.nw hn)⟩)⟩
    · exact absurd hL (E1.lk hU p)
/-! ### a dict that is walked is locked -/
mutual
theorem Rp.lock {p : Addr} {od : Obj} {kvs : List (Key × V)} (h : H p = some (.dK kvs)) : ∀ {d : B} {v : V}, Rp K Z o H d v → Rp K Z ⟨o.s, fun q => o.L q ∨ q = p⟩ (upd H p (.frz od (.dK kvs))) d v
  | .non, v, r => by rw [rp_non] at r ⊢; exact r
  | .bl _, v, r => by rw [rp_bl] at r ⊢; exact r
  | .int _, v, r => by rw [rp_int] at r ⊢; exact r
  | .str _, v, r => by rw [rp_str] at r ⊢; exact r
  | .raw _, v, r => by rw [rp_raw] at r ⊢; exact r
  | .src, v, r => by rw [rp_src] at r ⊢; exact r
  | .tup ds, v, r => by
    obtain ⟨q, vs, rfl, h1, h2⟩ := rp_tup.mp r
    refine rp_tup.mpr ⟨q, vs, rfl, ?_, Rps.lock h h2⟩
    rcases h1 with ⟨h1, hz⟩ | h1
    · exact .inl ⟨by rw [upd_ne (ne_of h1 h (fun z => nomatch z))]; exact h1, hz⟩
    · exact .inr h1
  | .lst ds, v, r => by
    obtain ⟨q, vs, rfl, hz, h1, h2⟩ := rp_lst.mp r
    exact rp_lst.mpr ⟨q, vs, rfl, hz, by rw [upd_ne (ne_of h1 h (fun z => nomatch z))]; exact h1, Rps.lock h h2⟩
  | .dct ks ds, v, r => by
    obtain ⟨q, vs, rfl, hz, h1, hl, h2⟩ := rp_dct.mp r
    refine rp_dct.mpr ⟨q, vs, rfl, hz, ?_, hl, Rps.lock h h2⟩
    by_cases hq : q = p
    · subst hq
      rcases h1 with h1 | ⟨_, od', h1⟩
      · rw [h] at h1
        cases h1
        exact .inr ⟨.inr rfl, od, upd_same⟩
      · rw [h] at h1
        cases h1
    · rw [upd_ne hq]
      exact h1.imp id fun ⟨a, b⟩ => ⟨.inl a, b⟩
  | .xc a d f b, v, r => by
    obtain ⟨rfl, hz, u, h1, h2⟩ := rp_xc.mp r
    exact rp_xc.mpr ⟨rfl, hz, u, by rw [upd_ne (ne_of h1 h (fun z => nomatch z))]; exact h1, Rp.lock h h2⟩
theorem Rps.lock {p : Addr} {od : Obj} {kvs : List (Key × V)} (h : H p = some (.dK kvs)) : ∀ {ds : List B} {vs : List V}, Rps K Z o H ds vs → Rps K Z ⟨o.s, fun q => o.L q ∨ q = p⟩ (upd H p (.frz od (.dK kvs))) ds vs
  | [], vs, r => by rw [rps_nil] at r ⊢; exact r
  | d :: ds, vs, r => by
    obtain ⟨v, r', rfl, h1, h2⟩ := rps_cons.mp r
    exact rps_cons.mpr ⟨v, r', rfl, Rp.lock h h1, Rps.lock h h2⟩
end
mutual
theorem Rp.unlock {p : Addr} {od : Obj} {kvs : List (Key × V)} (h : H p = some (.frz od (.dK kvs))) (hn : ¬ o.L p) : ∀ {d : B} {v : V}, Rp K Z ⟨o.s, fun q => o.L q ∨ q = p⟩ H d v → Rp K Z o (upd H p (.dK kvs)) d v
  | .non, v, r => by rw [rp_non] at r ⊢; exact r
  | .bl _, v, r => by rw [rp_bl] at r ⊢; exact r
  | .int _, v, r => by rw [rp_int] at r ⊢; exact r
  | .str _, v, r => by rw [rp_str] at r ⊢; exact r
  | .raw _, v, r => by rw [rp_raw] at r ⊢; exact r
  | .src, v, r => by rw [rp_src] at r ⊢; exact r
  | .tup ds, v, r => by
    obtain ⟨q, vs, rfl, h1, h2⟩ := rp_tup.mp r
    refine rp_tup.mpr ⟨q, vs, rfl, ?_, Rps.unlock h hn h2⟩
    rcases h1 with ⟨h1, hz⟩ | h1
    · exact .inl ⟨by rw [upd_ne (ne_of h1 h (fun z => nomatch z))]; exact h1, hz⟩
    · exact .inr h1
  | .lst ds, v, r => by
    obtain ⟨q, vs, rfl, hz, h1, h2⟩ := rp_lst.mp r
    exact rp_lst.mpr ⟨q, vs, rfl, hz, by rw [upd_ne (ne_of h1 h (fun z => nomatch z))]; exact h1, Rps.unlock h hn h2⟩
  | .dct ks ds, v, r => by
    obtain ⟨q, vs, rfl, hz, h1, hl, h2⟩ := rp_dct.mp r
    refine rp_dct.mpr ⟨q, vs, rfl, hz, ?_, hl, Rps.unlock h hn h2⟩
    by_cases hq : q = p
    · subst hq
      rcases h1 with h1 | ⟨_, od', h1⟩
      · rw [h] at h1
        cases h1
      · rw [h] at h1
        cases h1
        exact .inl upd_same
    · rw [upd_ne hq]
      exact h1.imp id fun ⟨a, b⟩ => ⟨a.elim id fun z => absurd z hq, b⟩
  | .xc a d f b, v, r => by
    obtain ⟨rfl, hz, u, h1, h2⟩ := rp_xc.mp r
    exact rp_xc.mpr ⟨rfl, hz, u, by rw [upd_ne (ne_of h1 h (fun z => nomatch z))]; exact h1, Rp.unlock h hn h2⟩
theorem Rps.unlock {p : Addr} {od : Obj} {kvs : List (Key × V)} (h : H p = some (.frz od (.dK kvs))) (hn : ¬ o.L p) : ∀ {ds : List B} {vs : List V}, Rps K Z ⟨o.s, fun q => o.L q ∨ q = p⟩ H ds vs → Rps K Z o (upd H p (.dK kvs)) ds vs
  | [], vs, r => by rw [rps_nil] at r ⊢; exact r
  | d :: ds, vs, r => by
    obtain ⟨v, r', rfl, h1, h2⟩ := rps_cons.mp r
    exact rps_cons.mpr ⟨v, r', rfl, Rp.unlock h hn h1, Rps.unlock h hn h2⟩
end
/-- where one stands while the dict at p is walked -/
def Wd.lk (W : Wd) (Γ : List Cell) (σ : L2.St) (Hl : Hp) (p : Addr) : Wd := ⟨Hl, ZZ W Γ σ, ⟨W.o.s, fun q => W.o.L q ∨ q = p⟩, W.T, [], Hl, ZZ W Γ σ⟩
theorem zz_lk {Hl : Hp} {p q : Addr} : ZZ (W.lk Γ σ Hl p) (Γ.map hideC) σ q ↔ ZZ W Γ σ q := by
  constructor
  · rintro (h | ⟨i, b, h1, _⟩)
    · exact h
    · rw [List.getElem?_map] at h1
      cases e : Γ[i]? with
      | none => rw [e] at h1; cases h1
      | some c =>
        rw [e] at h1
        have h2 : hideC c = .ow b := Option.some.inj h1
        cases c <;> cases h2
  · exact fun h => .inl h
theorem lock_in (E : Env G K W Γ σ H) (hU : G.U) {i : Nat} (h : Γ[i]? = some (.sh (.dct ks ds))) : ∃ (p : Addr) (vs : List V), σ[i]? = some (some (.ref p)) ∧ H p = some (.dK (ks.zip vs)) ∧ ks.length = vs.length ∧ ¬ ZZ W Γ σ p ∧ ∀ od, Env G.lo K (W.lk Γ σ (upd H p (.frz od (.dK (ks.zip vs)))) p) (Γ.map hideC) σ (upd H p (.frz od (.dK (ks.zip vs)))) ∧
    Rp K (ZZ W Γ σ) (W.lk Γ σ (upd H p (.frz od (.dK (ks.zip vs)))) p).o (upd H p (.frz od (.dK (ks.zip vs)))) (.dct ks ds) (.ref p) ∧
    ∀ H', Kp W.o (upd H p (.frz od (.dK (ks.zip vs)))) H' → DOk G W H' → H' p = some (.frz od (.dK (ks.zip vs))) → Env G K W Γ σ (upd H' p (.dK (ks.zip vs))) ∧ Kp W.o H (upd H' p (.dK (ks.zip vs))) ∧ ∀ b v, Rp K (ZZ W Γ σ) ⟨W.o.s, fun q => W.o.L q ∨ q = p⟩ H' b v → Rp K (ZZ W Γ σ) W.o (upd H' p (.dK (ks.zip vs))) b v := by
  obtain ⟨v, h1, h2⟩ := E.sh i _ h
  obtain ⟨p, vs, rfl, hz, h3, hl, h4⟩ := rp_dct.mp h2
  have hp : H p = some (.dK (ks.zip vs)) := h3.elim id fun ⟨z, _⟩ => absurd z (E.lk hU p)
  have ps : ¬ isS W.o p := fun z => hz (E.zs p z)
  have pst : ∀ st cl, W.o.s = some (st, cl) → p ≠ st ∧ p ≠ cl := fun st cl e => ⟨fun z => ps ⟨cl, by rw [z]; exact e⟩, fun z => by
    obtain ⟨xs, q⟩ := G.cl (E.dok st cl e)
    rw [← z, hp] at q
    cases q⟩
  refine ⟨p, vs, h1, hp, hl, hz, fun od => ⟨?_, h2.lock hp, fun H' k d hp' => ?_⟩⟩
  · have mv : ∀ {b : B} {v : V}, Rp K (ZZ W Γ σ) W.o H b v → Rp K (ZZ (W.lk Γ σ (upd H p (.frz od (.dK (ks.zip vs)))) p) (Γ.map hideC) σ) ⟨W.o.s, fun q => W.o.L q ∨ q = p⟩ (upd H p (.frz od (.dK (ks.zip vs)))) b v := fun r => (r.lock hp).less fun q z => zz_lk.mp z
    have hd : ∀ {j : Nat} {c : Cell}, (Γ.map hideC)[j]? = some c → ∃ c', Γ[j]? = some c' ∧ hideC c' = c := fun {j c} hj => by
      rw [List.getElem?_map] at hj
      cases e : Γ[j]? with
      | none => rw [e] at hj; cases hj
      | some c' => rw [e] at hj; exact ⟨c', rfl, Option.some.inj hj⟩
    refine ⟨by rw [List.length_map, E.len], fun st cl e => G.off (E.dok st cl e) (upd_ne (pst st cl e).1.symm) (upd_ne (pst st cl e).2.symm), fun st cl e => ⟨.inl (E.src st cl e).1, fun z => (E.src st cl e).2 (zz_lk.mp z)⟩, Kp.refl, fun q hq => ?_, fun b v hb => mv (E.tmp b v hb), fun j b hb => ?_, fun j b hb => ?_, fun j k b c q h1 _ _ _ => ?_, fun z => z.elim, trivial, Kp.refl, fun q z => ⟨z, ?_⟩, fun a u h => (List.not_mem_nil h).elim⟩
    · by_cases e : q = p
      · rw [e, upd_same]
        exact fun z => nomatch z
      · rw [upd_ne e]
        exact E.zz q hq
    · obtain ⟨c', e1, e2⟩ := hd hb
      cases c' <;> cases e2
      obtain ⟨u, a1, a2⟩ := E.sh j b e1
      exact ⟨u, a1, mv a2⟩
    · obtain ⟨c', e1, e2⟩ := hd hb
      cases c' <;> cases e2
    · obtain ⟨c', e1, e2⟩ := hd h1
      cases c' <;> cases e2
    · show upd H p (.frz od (.dK (ks.zip vs))) q ≠ none
      by_cases e : q = p
      · rw [e, upd_same]
        exact fun z => nomatch z
      · rw [upd_ne e]
        exact E.zz q z
  · have kk : Kp W.o H (upd H' p (.dK (ks.zip vs))) := fun b u hs hb => by
      by_cases e : b = p
      · rw [e, upd_same, ← hp, ← e, hb]
      · rw [upd_ne e]
        exact k b u hs (by rw [upd_ne e]; exact hb)
    exact ⟨E.step kk fun st cl e => G.off (d st cl e) (upd_ne (pst st cl e).1.symm) (upd_ne (pst st cl e).2.symm), kk, fun b v r => r.unlock hp' (E.lk hU p)⟩
theorem wipe_hide : ∀ {ws : List Nat}, wipeC (Γ.map hideC) ws = wipeC Γ ws
  | [] => by
    show (Γ.map hideC).map hideC = Γ.map hideC
    rw [List.map_map]
    refine List.map_congr_left fun c _ => ?_
    cases c <;> rfl
  | w :: ws => by
    show (wipeC (Γ.map hideC) ws).set w .no = (wipeC Γ ws).set w .no
    rw [wipe_hide]
/-- pairs of a dict -/
def itemsB (ks : List Key) (ds : List B) : List B := (ks.zip ds).map fun q => .tup [keyB q.1, q.2]
theorem dict_at {o : Sr} {p : Addr} {od : Obj} {kvs : List (Key × V)} (h : ∀ b v, (b, v) ∈ [(B.dct ks ds, V.ref p)] → Rp K Z o H b v) (h2 : ∀ a u, (a, u) ∈ [(p, HO.frz od (.dK kvs))] → H a = some u) : ∃ vs, kvs = ks.zip vs ∧ ks.length = vs.length ∧ Rps K Z o H ds vs := by
  obtain ⟨q, vs, e, hz, h1, hl, h3⟩ := rp_dct.mp (h _ _ (List.mem_singleton.mpr rfl))
  cases e
  have hp := h2 _ _ (List.mem_singleton.mpr rfl)
  rcases h1 with h1 | ⟨_, od', h1⟩
  · rw [hp] at h1
    cases h1
  · rw [hp] at h1
    cases h1
    exact ⟨vs, rfl, hl, h3⟩
theorem zip_len {vs : List V} (hl : ks.length = vs.length) : (ks.zip vs).length = ks.length := by rw [List.length_zip]; omega
theorem zip_at {vs : List V} (hl : ks.length = vs.length) (r : Rps K Z o H ds vs) {i : Nat} {k : Key} {v : V} (h : (ks.zip vs)[i]? = some (k, v)) : ks[i]? = some k ∧ ∃ d, ds[i]? = some d ∧ Rp K Z o H d v := by
  obtain ⟨h1, h2⟩ := List.getElem?_zip_eq_some.mp h
  exact ⟨h1, rps_atv r h2⟩
theorem wk_items {o : Sr} {p : Addr} {od : Obj} {kvs : List (Key × V)} (hk : kvs.length = ks.length) (hd : ks.length = ds.length) : WkI K o (Iti p od kvs) [(.dct ks ds, .ref p)] [(p, .frz od (.dK kvs))] (itemsB ks ds) := by
  have hl : (itemsB ks ds).length = ks.length := by unfold itemsB; rw [List.length_map, List.length_zip]; omega
  refine ⟨fun Z H i h1 h2 hi => ⟨h2 _ _ (List.mem_singleton.mpr rfl), by omega⟩, fun Z H i h1 h2 hi => ⟨h2 _ _ (List.mem_singleton.mpr rfl), by omega⟩, fun Z H i x H' h1 h2 hz hy hi => ?_⟩
  obtain ⟨vs, rfl, hl2, r⟩ := dict_at h1 h2
  obtain ⟨T, k, v, e, rfl, hT, rfl⟩ := hy
  obtain ⟨a1, d, a2, a3⟩ := zip_at hl2 r e
  have off : ∀ b u, (¬ Z b ∨ isS o b) → ¬ Z b → H b = some u → upd H T (.tup [kV k, v]) b = some u := fun b u _ _ hb => by
    rw [upd_ne (ne_of_none hb hT)]
    exact hb
  refine ⟨(Same.refl H).nw hT, .tup [keyB k, d], ?_, rp_tup.mpr ⟨T, _, rfl, .inl ⟨upd_same, fun z => hz T z hT⟩, rps_cons.mpr ⟨_, _, rfl, key_rp, rps_one (a3.off off)⟩⟩⟩
  unfold itemsB
  have ez : (ks.zip ds)[i]? = some (k, d) := List.getElem?_zip_eq_some.mpr ⟨a1, a2⟩
  rw [List.getElem?_map, ez]
  rfl
theorem wk_values {o : Sr} {p : Addr} {od : Obj} {kvs : List (Key × V)} (hk : kvs.length = ks.length) (hd : ks.length = ds.length) : WkI K o (Itd p od kvs) [(.dct ks ds, .ref p)] [(p, .frz od (.dK kvs))] ds := by
  refine ⟨fun Z H i h1 h2 hi => ⟨h2 _ _ (List.mem_singleton.mpr rfl), by omega⟩, fun Z H i h1 h2 hi => ⟨h2 _ _ (List.mem_singleton.mpr rfl), by omega⟩, fun Z H i x H' h1 h2 hz hy hi => ?_⟩
  obtain ⟨vs, rfl, hl2, r⟩ := dict_at h1 h2
  obtain ⟨rfl, k, e⟩ := hy
  obtain ⟨a1, d, a2, a3⟩ := zip_at hl2 r e
  exact ⟨Same.refl _, d, a2, a3⟩
theorem wk_keys {o : Sr} {p : Addr} {od : Obj} {kvs : List (Key × V)} (hk : kvs.length = ks.length) (hd : ks.length = ds.length) : WkI K o (Itk p od kvs) [(.dct ks ds, .ref p)] [(p, .frz od (.dK kvs))] (ks.map keyB) := by
  have hl : (ks.map keyB).length = ks.length := List.length_map ..
  refine ⟨fun Z H i h1 h2 hi => ⟨h2 _ _ (List.mem_singleton.mpr rfl), by omega⟩, fun Z H i h1 h2 hi => ⟨h2 _ _ (List.mem_singleton.mpr rfl), by omega⟩, fun Z H i x H' h1 h2 hz hy hi => ?_⟩
  obtain ⟨vs, rfl, hl2, r⟩ := dict_at h1 h2
  obtain ⟨rfl, k, v, e, rfl⟩ := hy
  obtain ⟨a1, d, a2, a3⟩ := zip_at hl2 r e
  exact ⟨Same.refl _, keyB k, by rw [List.getElem?_map, a1]; rfl, key_rp⟩
theorem lc_lock {J : List (Key × V) → Addr → Obj → It} {xs : List B} (hU : G.U) {i : Nat} (h : Γ[i]? = some (.sh (.dct ks ds))) (hw : ∀ (σ : L2.St) (H : Hp) (R : It → Hp → Prop) (p : Addr) (od : Obj) (kvs : List (Key × V)), σ[i]? = some (some (.ref p)) → H p = some (.frz od (.dK kvs)) → R (J kvs p od) H → wi σ H R)
    (wk : ∀ (o : Sr) (p : Addr) (od : Obj) (kvs : List (Key × V)), kvs.length = ks.length → ks.length = ds.length → WkI K o (J kvs p od) [(.dct ks ds, .ref p)] [(p, .frz od (.dK kvs))] xs) (q : LcT G.lo K g tt te ws Γ Post xs) : bwE G K (tLockE (tLc wi g tt te ws)) Γ Post := fun W σ H Q E k => by
  obtain ⟨p, vs, h1, hp, hl, hz, kk⟩ := lock_in E hU h
  refine ⟨p, _, hp, trivial, fun od => ?_⟩
  obtain ⟨E1, r1, back⟩ := kk od
  have hds : ks.length = ds.length := by
    obtain ⟨_, vs', _, _, _, a, b⟩ := rp_dct.mp r1
    rw [a, rps_len b]
  unfold tLc
  refine hw σ _ _ p od (ks.zip vs) h1 upd_same fun D hD => ?_
  have q' : LcT G.lo K g tt te ws (Γ.map hideC) Post xs := by
    unfold LcT
    rw [wipe_hide]
    exact q
  have t2 : ∀ a u, (a, u) ∈ [(p, HO.frz od (.dK (ks.zip vs)))] → upd H p (.frz od (.dK (ks.zip vs))) a = some u ∧ ¬ ZZ (W.lk Γ σ (upd H p (.frz od (.dK (ks.zip vs)))) p) (Γ.map hideC) σ a := fun a u ha => by
    rw [List.mem_singleton] at ha
    cases ha
    exact ⟨upd_same, fun z => hz (zz_lk.mp z)⟩
  obtain ⟨f1, f2, f3⟩ := E1.fresh hD
  refine lc_go (Q := fun v H' => H' p = some (.frz od (.dK (ks.zip vs))) ∧ Q v (upd H' p (.dK (ks.zip vs)))) E1 (fun b v hb => ?_) t2 (wk _ p od _ (zip_len hl) hds) q' hD fun acc H' pa k2 E' ow t2' => ?_
  · rw [List.mem_singleton] at hb
    cases hb
    exact r1.less fun q z => zz_lk.mp z
  · have hp' := t2' _ _ (List.mem_singleton.mpr rfl)
    obtain ⟨b1, b2, b3⟩ := back H' k2 E'.dok hp'
    refine ⟨hp', k (.lst acc) (.ref D) _ pa b2 b1 (b3 _ _ ?_)⟩
    exact (ow.mv fun b n _ z => n (zz_plus.mpr (.inl (zz_lk.mpr z)))).rp fun z => f2 (zz_lk.mpr z)
theorem lcItems (hU : G.U) {i : Nat} (h : Γ[i]? = some (.sh (.dct ks ds))) (q : LcT G.lo K g tt te ws Γ Post (itemsB ks ds)) : bwE G K (tLockE (tLc (iItems (tVar i)) g tt te ws)) Γ Post :=
  lc_lock (J := fun kvs p od => Iti p od kvs) hU h (fun σ H R p od kvs a b c => RD.iitems (RD.var a ⟨p, od, kvs, rfl, b, c⟩)) (fun o p od kvs a b => wk_items a b) q
theorem lcValues (hU : G.U) {i : Nat} (h : Γ[i]? = some (.sh (.dct ks ds))) (q : LcT G.lo K g tt te ws Γ Post ds) : bwE G K (tLockE (tLc (iVals (tVar i)) g tt te ws)) Γ Post :=
  lc_lock (J := fun kvs p od => Itd p od kvs) hU h (fun σ H R p od kvs a b c => RD.ivals (RD.var a ⟨p, od, kvs, rfl, b, c⟩)) (fun o p od kvs a b => wk_values a b) q
theorem lcKeys (hU : G.U) {i : Nat} (h : Γ[i]? = some (.sh (.dct ks ds))) (q : LcT G.lo K g tt te ws Γ Post (ks.map keyB)) : bwE G K (tLockE (tLc (iKeys (tVar i)) g tt te ws)) Γ Post :=
  lc_lock (J := fun kvs p od => Itk p od kvs) hU h (fun σ H R p od kvs a b c => RD.ikeys (RD.var a ⟨p, od, rfl, .inl ⟨kvs, b, c⟩⟩)) (fun o p od kvs a b => wk_keys a b) q
end
end BV

set_option Elab.async false
set_option linter.all false
set_option maxRecDepth 100000
set_option maxHeartbeats 4000000
/-! by value: dicts that are made -/
namespace BV
open PySem PySem.Spec PyProof.Rows L2 G0
section
variable {G : DK} {K : PySem.W.Frag} {W : Wd} {Γ : List Cell} {σ : L2.St} {H H' H1 : Hp} {Post P : B → Prop} {te ta tb td ty tk tv : TE} {t tr : TA} {Z : AS} {o : Sr} {e : En} {wi : TI} {g : TG} {tt : TT} {ws : List Nat} {ks : List Key} {ds : List B}
/-- what a dict comprehension asks of a turn -/
def DcT (G : DK) (K : PySem.W.Frag) (g : TG) (tt : TT) (tk tv : TE) (ws : List Nat) (Γ : List Cell) (Post : B → Prop) (ds : List B) : Prop := ∃ I : Nat → List Key → List B → Prop, I 0 [] [] ∧ (∀ (k : Nat) (d : B) (kk : List Key) (dd : List B), ds[k]? = some d → I k kk dd → bwGv G K ws g d (wipeC Γ ws) fun g' => bwT G K tt g' fun b => if b = true then bwE G K tk g' fun y => bwE G K tv g' fun z => ∃ key, y = keyB key ∧ kk.length < sizeLine ∧ I (k + 1) (putB kk dd key z).1 (putB kk dd key z).2 else I (k + 1) kk dd) ∧ ∀ kk dd, I ds.length kk dd → Post (.dct kk dd)
theorem dc_go {tm : List (B × V)} {t2 : List (Addr × HO)} {J : It} {Q : VK} {D : Addr} (E1 : Env G K W Γ σ H1) (htm : ∀ b v, (b, v) ∈ tm → Rp K (ZZ W Γ σ) W.o H1 b v) (ht2 : ∀ a u, (a, u) ∈ t2 → H1 a = some u ∧ ¬ ZZ W Γ σ a) (wk : WkI K W.o J tm t2 ds) (p : DcT G K g tt tk tv ws Γ Post ds) (hD : H1 D = none)
    (q : ∀ (kk : List Key) (dd : List B) (H' : Hp), Post (.dct kk dd) → Kp W.o H1 H' → Env G K (W.plus D) Γ σ H' → OwAt K (ZZ (W.plus D) Γ σ) W.o H' D (.dct kk dd) → (∀ a u, (a, u) ∈ t2 → H' a = some u) → Q (.ref D) H') :
    ∃ W : Nat → Nat → Hp → Prop, (∃ m, W 0 m (upd H1 D (.dK []))) ∧ ∀ i m H, W i m H →
      (J.stop i H ∧ Q (.ref D) H) ∨ (J.go i H ∧ ∃ Nx : Hp → Prop, (∀ H', Nx H' → ∃ m', m' < m ∧ W (i + 1) m' H') ∧ ∀ x H', J.yld i H x H' → g x (wipe σ ws) H' fun σ2 H2 => wipe σ2 ws = wipe σ ws ∧ tt σ2 H2 fun b H3 =>
        if b = true then tk σ2 H3 fun y H4 => tv σ2 H4 fun z H5 => ∃ kvs k, y = kV k ∧ H5 D = some (.dK kvs) ∧ kvs.length < sizeLine ∧ Nx (upd H5 D (.dK (putK kvs k z))) else Nx H3) := by
  obtain ⟨I, i0, step, done⟩ := p
  obtain ⟨f1, f2, f3⟩ := E1.fresh hD
  have E2 := E1.comp (ws := ws) hD htm ht2 (u := .dK [])
  refine ⟨fun i m H' => m = ds.length - i ∧ i ≤ ds.length ∧ ∃ kk dd, I i kk dd ∧ Env G K (W.comp Γ σ H1 tm t2 D) (wipeC Γ ws) (wipe σ ws) H' ∧ ∃ av, H' D = some (.dK (kk.zip av)) ∧ kk.length = av.length ∧ Rps K (fun p => ZZ W Γ σ p ∨ p = D) W.o H' dd av, ⟨ds.length, rfl, Nat.zero_le _, [], [], i0, E2, [], upd_same, rfl, rps_nil.mpr rfl⟩, fun i m H' hI => ?_⟩
  obtain ⟨rfl, hi, kk, dd, hI, E', av, hL, hl, hA⟩ := hI
  have tm' : ∀ b v, (b, v) ∈ tm → Rp K (ZZ (W.comp Γ σ H1 tm t2 D) (wipeC Γ ws) (wipe σ ws)) W.o H' b v := fun b v hb => E'.tmp b v (List.mem_append_left _ hb)
  have t2' : ∀ a u, (a, u) ∈ t2 → H' a = some u := fun a u ha => (E'.tm2 a u (List.mem_append_left _ ha)).1
  rcases Nat.lt_or_ge i ds.length with hlt | hge
  · refine .inr ⟨wk.go _ _ _ tm' t2' hlt, fun H2 => ∃ kk dd, I (i + 1) kk dd ∧ Env G K (W.comp Γ σ H1 tm t2 D) (wipeC Γ ws) (wipe σ ws) H2 ∧ ∃ av, H2 D = some (.dK (kk.zip av)) ∧ kk.length = av.length ∧ Rps K (fun p => ZZ W Γ σ p ∨ p = D) W.o H2 dd av, fun H2 ⟨kk2, dd2, a1, a2, a3⟩ => ⟨_, by omega, rfl, hlt, kk2, dd2, a1, a2, a3⟩, fun x H2 hy => ?_⟩
    obtain ⟨s2, d, hd, rd⟩ := wk.yld _ _ _ _ _ tm' t2' E'.zz hy hlt
    have E3 := E'.same s2
    refine step i d kk dd hd hI (W.comp Γ σ H1 tm t2 D) (wipe σ ws) H2 x _ E3 rd fun Γ2 σ2 b2 hw E4 => ⟨hw.trans wipe_idem, b2 (W.comp Γ σ H1 tm t2 D) σ2 H2 _ E4 fun b H3 pb k3 E5 => ?_⟩
    have fin : ∀ {H4 : Hp}, Kp W.o H2 H4 → DOk G W H4 → Env G K (W.comp Γ σ H1 tm t2 D) (wipeC Γ ws) (wipe σ ws) H4 ∧ H4 D = some (.dK (kk.zip av)) ∧ Rps K (fun p => ZZ W Γ σ p ∨ p = D) W.o H4 dd av := fun {H4} k4 d4 =>
      have kk' := (Kp.same (o := W.o) s2).trans k4
      ⟨E'.step kk' d4, kk' _ _ f3 hL, hA.kp (fun st z => .inl (E1.zs st z)) kk'⟩
    cases b with
    | true =>
      rw [if_pos rfl] at pb ⊢
      refine pb (W.comp Γ σ H1 tm t2 D) σ2 H3 _ E5 fun y v H4 py k4 E6 r6 => py (W.comp Γ σ H1 tm t2 D) σ2 H4 _ E6 fun z u H5 pz k5 E7 r7 => ?_
      obtain ⟨key, rfl, hz, pI⟩ := pz
      obtain ⟨a1, a2, a3⟩ := fin (k3.trans (k4.trans k5)) E7.dok
      have off : ∀ b w, (¬ (ZZ W Γ σ b ∨ b = D) ∨ isS W.o b) → ¬ (ZZ W Γ σ b ∨ b = D) → H5 b = some w → upd H5 D (.dK (putK (kk.zip av) key u)) b = some w := fun b w _ n hb => by
        rw [upd_ne fun e => n (.inr e)]
        exact hb
      obtain ⟨vs', e1, e2, e3⟩ := put_zip (k := key) hl a3 (r7.less fun p z => .inl z)
      refine ⟨_, key, rp_key r6, a2, by rw [zip_len hl]; exact hz, _, _, pI, (show Env G K (Wd.plus ⟨H1, ZZ W Γ σ, W.o, tm ++ W.T, t2 ++ W.T2, W.HX, W.ZX⟩ D) _ _ H5 from a1).put hD f3 no_own, vs', by rw [upd_same, e1], e2, e3.off off⟩
    | false =>
      rw [if_neg Bool.false_ne_true] at pb ⊢
      obtain ⟨a1, a2, a3⟩ := fin k3 E5.dok
      exact ⟨kk, dd, pb, a1, av, a2, hl, a3⟩
  · have e1 : i = ds.length := by omega
    subst e1
    exact .inl ⟨wk.stop _ _ _ tm' t2' hge, q kk dd H' (done kk dd hI) E'.kp (E1.plusLate hD E'.kp E'.dok (by rw [hL]; exact fun z => nomatch z)) ⟨av, hL, hl, hA.mv fun b nb _ z => nb (zz_plus.mp z)⟩ t2'⟩
theorem dcN (h : bwI G K wi Γ fun ds => DcT G K g tt tk tv ws Γ Post ds) : bwN G K (tDc wi g tt tk tv ws) Γ Post := fun W σ H Q E q => by
  unfold tDc
  refine h W σ H _ E fun ds tm t2 J H1 p k1 E1 htm ht2 wk D hD => ?_
  obtain ⟨f1, f2, f3⟩ := E1.fresh hD
  exact dc_go E1 htm ht2 wk p hD fun kk dd H' pa k2 E' ow _ => q _ D H' pa (k1.trans k2) E' f1 f3 f2 ow
theorem dc_lock {J : List (Key × V) → Addr → Obj → It} {xs : List B} (hU : G.U) {i : Nat} (h : Γ[i]? = some (.sh (.dct ks ds))) (hw : ∀ (σ : L2.St) (H : Hp) (R : It → Hp → Prop) (p : Addr) (od : Obj) (kvs : List (Key × V)), σ[i]? = some (some (.ref p)) → H p = some (.frz od (.dK kvs)) → R (J kvs p od) H → wi σ H R)
    (wk : ∀ (o : Sr) (p : Addr) (od : Obj) (kvs : List (Key × V)), kvs.length = ks.length → ks.length = ds.length → WkI K o (J kvs p od) [(.dct ks ds, .ref p)] [(p, .frz od (.dK kvs))] xs) (q : DcT G.lo K g tt tk tv ws Γ Post xs) : bwE G K (tLockE (tDc wi g tt tk tv ws)) Γ Post := fun W σ H Q E k => by
  obtain ⟨p, vs, h1, hp, hl, hz, kk⟩ := lock_in E hU h
  refine ⟨p, _, hp, trivial, fun od => ?_⟩
  obtain ⟨E1, r1, back⟩ := kk od
  have hds : ks.length = ds.length := by
    obtain ⟨_, vs', _, _, _, a, b⟩ := rp_dct.mp r1
    rw [a, rps_len b]
  unfold tDc
  refine hw σ _ _ p od (ks.zip vs) h1 upd_same fun D hD => ?_
  have q' : DcT G.lo K g tt tk tv ws (Γ.map hideC) Post xs := by
    unfold DcT
    rw [wipe_hide]
    exact q
  have t2 : ∀ a u, (a, u) ∈ [(p, HO.frz od (.dK (ks.zip vs)))] → upd H p (.frz od (.dK (ks.zip vs))) a = some u ∧ ¬ ZZ (W.lk Γ σ (upd H p (.frz od (.dK (ks.zip vs)))) p) (Γ.map hideC) σ a := fun a u ha => by
    rw [List.mem_singleton] at ha
    cases ha
    exact ⟨upd_same, fun z => hz (zz_lk.mp z)⟩
  obtain ⟨f1, f2, f3⟩ := E1.fresh hD
  refine dc_go (Q := fun v H' => H' p = some (.frz od (.dK (ks.zip vs))) ∧ Q v (upd H' p (.dK (ks.zip vs)))) E1 (fun b v hb => ?_) t2 (wk _ p od _ (zip_len hl) hds) q' hD fun kk dd H' pa k2 E' ow t2' => ?_
  · rw [List.mem_singleton] at hb
    cases hb
    exact r1.less fun q z => zz_lk.mp z
  · have hp' := t2' _ _ (List.mem_singleton.mpr rfl)
    obtain ⟨b1, b2, b3⟩ := back H' k2 E'.dok hp'
    refine ⟨hp', k (.dct kk dd) (.ref D) _ pa b2 b1 (b3 _ _ ?_)⟩
    exact (ow.mv fun b n _ z => n (zz_plus.mpr (.inl (zz_lk.mpr z)))).rp fun z => f2 (zz_lk.mpr z)
theorem dcItems (hU : G.U) {i : Nat} (h : Γ[i]? = some (.sh (.dct ks ds))) (q : DcT G.lo K g tt tk tv ws Γ Post (itemsB ks ds)) : bwE G K (tLockE (tDc (iItems (tVar i)) g tt tk tv ws)) Γ Post :=
  dc_lock (J := fun kvs p od => Iti p od kvs) hU h (fun σ H R p od kvs a b c => RD.iitems (RD.var a ⟨p, od, kvs, rfl, b, c⟩)) (fun o p od kvs a b => wk_items a b) q
/-! ### displays -/
def bwPs (G : DK) (K : PySem.W.Frag) : List (TE × TE) → List Cell → (List (Key × B) → Prop) → Prop
  | [], _, P => P []
  | (tk, tv) :: r, Γ, P => bwE G K tk Γ fun x => bwE G K tv Γ fun y => ∃ k, x = keyB k ∧ bwPs G K r Γ fun ps => P ((k, y) :: ps)
def Prs (K : PySem.W.Frag) (Z : AS) (o : Sr) (H : Hp) (ps : List (Key × B)) (kvs : List (Key × V)) : Prop := kvs.map (·.1) = ps.map (·.1) ∧ Rps K Z o H (ps.map (·.2)) (kvs.map (·.2))
theorem bwPs_run : ∀ {trs : List (TE × TE)} {P : List (Key × B) → Prop}, bwPs G K trs Γ P → ∀ (W : Wd) (σ : L2.St) (H : Hp) (Q : List (V × V) → Hp → Prop), Env G K W Γ σ H → (∀ ps kvs H', P ps → Kp W.o H H' → Env G K W Γ σ H' → Prs K (ZZ W Γ σ) W.o H' ps kvs → Q (kvs.map fun kv => (kV kv.1, kv.2)) H') → tPairs trs σ H Q
  | [], P, h, W, σ, H, Q, E, k => k [] [] H h Kp.refl E ⟨rfl, rps_nil.mpr rfl⟩
  | (tk, tv) :: r, P, h, W, σ, H, Q, E, k => by
    refine h W σ H _ E fun x v H1 p1 k1 E1 r1 => p1 W σ H1 _ E1 fun y u H2 p2 k2 E2 r2 => ?_
    obtain ⟨key, rfl, p2⟩ := p2
    refine bwPs_run p2 W σ H2 _ E2 fun ps kvs H3 p3 k3 E3 r3 => ?_
    have := k ((key, y) :: ps) ((key, u) :: kvs) H3 p3 (k1.trans (k2.trans k3)) E3 ⟨by rw [List.map_cons, List.map_cons, r3.1], rps_cons.mpr ⟨u, _, rfl, r2.kp E2.zs k3, r3.2⟩⟩
    rw [rp_key r1]
    exact this
theorem merge_zip : ∀ {ps : List (Key × B)} {kvs : List (Key × V)} {kk : List Key} {dd : List B} {av : List V}, Prs K Z o H ps kvs → kk.length = av.length → Rps K Z o H dd av → ∃ av', mergeK (kk.zip av) kvs = (mergeB (kk, dd) ps).1.zip av' ∧ (mergeB (kk, dd) ps).1.length = av'.length ∧ Rps K Z o H (mergeB (kk, dd) ps).2 av'
  | [], kvs, kk, dd, av, h, hl, r => by
    have : kvs = [] := List.map_eq_nil_iff.mp h.1
    subst this
    exact ⟨av, rfl, hl, r⟩
  | (k, b) :: ps, kvs, kk, dd, av, h, hl, r => by
    cases kvs with
    | nil => cases h.1
    | cons kv kvs =>
      obtain ⟨h1, h2⟩ := h
      rw [List.map_cons, List.map_cons] at h1
      rw [List.map_cons, List.map_cons] at h2
      obtain ⟨v, rest, e, r1, r2⟩ := rps_cons.mp h2
      have e1 : kv.2 = v := (List.cons.inj e).1
      have e2 : kvs.map (·.2) = rest := (List.cons.inj e).2
      subst e1 e2
      have e3 : kv.1 = k := (List.cons.inj h1).1
      subst e3
      obtain ⟨vs', a1, a2, a3⟩ := put_zip (k := kv.1) hl r r1
      obtain ⟨av', b1, b2, b3⟩ := merge_zip (ps := ps) (kvs := kvs) (kk := (putB kk dd kv.1 b).1) (dd := (putB kk dd kv.1 b).2) (av := vs') ⟨(List.cons.inj h1).2, r2⟩ a2 a3
      refine ⟨av', ?_, b2, b3⟩
      have e4 : mergeK (kk.zip av) (kv :: kvs) = mergeK (putK (kk.zip av) kv.1 kv.2) kvs := rfl
      rw [e4, a1, b1]
      rfl
theorem dispN {trs : List (TE × TE)} (h : bwPs G K trs Γ fun ps => ps.length ≤ 15 ∧ Post (.dct (mergeB ([], []) ps).1 (mergeB ([], []) ps).2)) : bwN G K (tDisp trs) Γ Post := fun W σ H Q E k => fun p hp => by
  obtain ⟨f1, f2, f3⟩ := E.fresh hp
  refine bwPs_run h (W.plus p) σ _ _ (E.plus hp (u := .dK [])) fun ps kvs H' pb k1 E1 r1 => ?_
  have hp' : H' p = some (.dK []) := k1 _ _ f3 upd_same
  have hk : kvs.length = ps.length := by
    have := congrArg List.length r1.1
    rwa [List.length_map, List.length_map] at this
  obtain ⟨av', b1, b2, b3⟩ := merge_zip (kk := []) (dd := []) (av := []) r1 rfl (rps_nil.mpr rfl)
  have b1' : mergeK [] kvs = (mergeB ([], []) ps).1.zip av' := b1
  refine ⟨hp', kvs, rfl, by rw [hk]; exact pb.1, k _ p _ pb.2 (fun b u hs hb => ?_) (E1.put f1 f3 (fun z => f2 (.inr z))) f1 f3 f2 ⟨av', by rw [upd_same, b1'], b2, b3.off fun b u _ n hb => ?_⟩⟩
  · have hbp := ne_of_none hb hp
    rw [upd_ne hbp]
    exact k1 b u hs (by rw [upd_ne hbp]; exact hb)
  · rw [upd_ne fun e => n (zz_plus.mpr (.inr e))]
    exact hb
end
end BV

set_option Elab.async false
set_option linter.all false
set_option maxRecDepth 100000
set_option maxHeartbeats 4000000
/-! by value: loops over a known list, turn by turn; tables of texts; f-strings; isinstance of several -/
namespace RD
open PySem PySem.Spec PyProof.Rows L2 G0
theorem kget' {K : PySem.W.Frag} {w : World} {td ty : TE} {σ : L2.St} {H : Hp} {Q : VK} (h : td σ H fun x H1 => ∃ p, x = .ref p ∧ KD K w p ∧ ty σ H1 fun y H2 => ∃ z r, y = .str z ∧ PySem.W.nsIn K p z = some r ∧ (∀ u, r = some u → ∃ v, RelV v u ∧ Q v H2) ∧ (r = none → Q .non H2)) : tKGet K w td ty σ H Q := h
end RD
namespace BV
open PySem PySem.Spec PyProof.Rows L2 G0
/-- a loop over these items, turn by turn -/
def bwFor (G : DK) (K : PySem.W.Frag) (g : TG) (tb : TS) (e : En) : List B → List Cell → Prop
  | [], Γ => e.N Γ
  | d :: ds, Γ => bwG G K g d Γ fun g' => bwS G K tb g' ⟨bwFor G K g tb e ds, e.R, e.N, bwFor G K g tb e ds⟩
/-- a comprehension over these items, turn by turn -/
def bwLc (G : DK) (K : PySem.W.Frag) (g : TG) (tt : TT) (te : TE) (ws : List Nat) (Γ : List Cell) (P : B → Prop) : List B → List B → Prop
  | [], acc => P (.lst acc)
  | d :: ds, acc => bwGv G K ws g d (wipeC Γ ws) fun g' => bwT G K tt g' fun b => if b = true then bwE G K te g' fun y => acc.length < sizeLine ∧ bwLc G K g tt te ws Γ P ds (acc ++ [y]) else bwLc G K g tt te ws Γ P ds acc
section
variable {G : DK} {K : PySem.W.Frag} {Γ : List Cell} {Post P : B → Prop} {te ta tb td ty : TE} {t1 : TS} {e : En} {wi : TI} {g : TG} {tt : TT} {ws : List Nat} {ds acc : List B}
theorem forU (h : bwI G K wi Γ fun ds => bwFor G K g t1 e ds Γ) : bwS G K (tFor wi g t1) Γ e := by
  refine forI fun W σ H R E q => h W σ H R E fun ds tm t2 J H' p => q ds tm t2 J H' ⟨fun k g' => bwFor G K g t1 e (ds.drop k) g', p, fun k d g' hk hI => ?_, fun g' hI => ?_⟩
  · have hI' : bwFor G K g t1 e (ds.drop k) g' := hI
    have e1 : ds.drop k = d :: ds.drop (k + 1) := by
      have hlt := (List.getElem?_eq_some_iff.mp hk).1
      rw [List.drop_eq_getElem_cons hlt]
      congr 1
      exact (List.getElem?_eq_some_iff.mp hk).2
    rw [e1] at hI'
    exact hI'
  · have hI' : bwFor G K g t1 e (ds.drop ds.length) g' := hI
    rw [List.drop_length] at hI'
    exact hI'
theorem forNil (h : e.N Γ) : bwFor G K g t1 e [] Γ := h
theorem forCons {d : B} (h : bwG G K g d Γ fun g' => bwS G K t1 g' ⟨bwFor G K g t1 e ds, e.R, e.N, bwFor G K g t1 e ds⟩) : bwFor G K g t1 e (d :: ds) Γ := h
theorem lcT_of (h : bwLc G K g tt te ws Γ Post ds []) : LcT G K g tt te ws Γ Post ds := by
  refine ⟨fun k acc => bwLc G K g tt te ws Γ Post (ds.drop k) acc, h, fun k d acc hk hI => ?_, fun acc hI => ?_⟩
  · have hI' : bwLc G K g tt te ws Γ Post (ds.drop k) acc := hI
    have e1 : ds.drop k = d :: ds.drop (k + 1) := by
      have hlt := (List.getElem?_eq_some_iff.mp hk).1
      rw [List.drop_eq_getElem_cons hlt]
      congr 1
      exact (List.getElem?_eq_some_iff.mp hk).2
    rw [e1] at hI'
    exact hI'
  · have hI' : bwLc G K g tt te ws Γ Post (ds.drop ds.length) acc := hI
    rw [List.drop_length] at hI'
    exact hI'
theorem lcU (h : bwI G K wi Γ fun ds => bwLc G K g tt te ws Γ Post ds []) : bwN G K (tLc wi g tt te ws) Γ Post := lcN fun W σ H R E q => h W σ H R E fun ds tm t2 J H' p => q ds tm t2 J H' (lcT_of p)
theorem lcNil (h : P (.lst acc)) : bwLc G K g tt te ws Γ P [] acc := h
theorem lcCons {d : B} (h : bwGv G K ws g d (wipeC Γ ws) fun g' => bwT G K tt g' fun b => if b = true then bwE G K te g' fun y => acc.length < sizeLine ∧ bwLc G K g tt te ws Γ P ds (acc ++ [y]) else bwLc G K g tt te ws Γ P ds acc) : bwLc G K g tt te ws Γ P (d :: ds) acc := h
/-- each item gives f of it -/
theorem lcT_map (f : B → B) (hz : ds.length ≤ sizeLine) (h : ∀ (k : Nat) (d : B), ds[k]? = some d → bwGv G K ws g d (wipeC Γ ws) fun g' => bwE G K te g' fun y => y = f d) (q : Post (.lst (ds.map f))) : LcT G K g tYes te ws Γ Post ds := by
  refine ⟨fun k acc => k ≤ ds.length ∧ acc = (ds.take k).map f, ⟨Nat.zero_le _, rfl⟩, fun k d acc hk ⟨h1, h2⟩ => ?_, fun acc ⟨h1, h2⟩ => by rw [h2, List.take_length]; exact q⟩
  have hlt := (List.getElem?_eq_some_iff.mp hk).1
  refine fun W σ H v QS E r q => h k d hk W σ H v QS E r fun Γ' σ' p => q Γ' σ' (yes ?_)
  rw [if_pos rfl]
  refine p.mono fun y hy => ⟨by rw [h2, List.length_map, List.length_take]; omega, hlt, ?_⟩
  rw [h2, List.take_succ, hk, hy, List.map_append]
  rfl
/-! ### tables of texts -/
abbrev TabS := List (Str × List Str)
structure FTS (K : PySem.W.Frag) (w : World) (mg : Str → Option Value) (x : Str) (tab : TabS) : Prop where
  ex : ∃ p, mg x = some (.ref p) ∧ KD K w p ∧ ∀ z : Str, match tab.lookup z with
    | none => PySem.W.nsIn K p z = some none
    | some fs => ∃ t : Addr, PySem.W.nsIn K p z = some (some (.ref t)) ∧ ∀ H, SqT K H t (fs.map V.str)
def formB (o : Option (List Str)) : B := match o with
  | none => .non
  | some fs => .tup (fs.map B.str)
theorem kgetB {w : World} {p : Addr} {tab : TabS} (kd : KD K w p) (l : ∀ z : Str, match tab.lookup z with
    | none => PySem.W.nsIn K p z = some none
    | some fs => ∃ t : Addr, PySem.W.nsIn K p z = some (some (.ref t)) ∧ ∀ H, SqT K H t (fs.map V.str))
    (h : bwE G K ty Γ fun y => ∃ z, y = .str z ∧ Post (formB (tab.lookup z))) : bwE G K (tKGet K w (tC (.ref p)) ty) Γ Post := fun W σ H Q E k =>
  RD.kget' (RD.c_ ⟨p, rfl, kd, h W σ H _ E fun y v H1 py k1 E1 r1 => by
    obtain ⟨z, rfl, py⟩ := py
    have lz := l z
    cases e : tab.lookup z with
    | none =>
      rw [e] at lz py
      exact ⟨z, none, rp_str.mp r1, lz, fun u h => (nomatch h), fun _ => k _ _ H1 py k1 E1 (rp_non.mpr rfl)⟩
    | some fs =>
      rw [e] at lz py
      obtain ⟨t, lt, ht⟩ := lz
      exact ⟨z, _, rp_str.mp r1, lt, fun u h => ⟨.ref t, by cases h; rfl, k _ _ H1 py k1 E1 (rp_tup.mpr ⟨t, _, rfl, .inr ht, strs_rps⟩)⟩, fun h => (nomatch h)⟩⟩)
/-! ### f-strings -/
def bwJs (G : DK) (K : PySem.W.Frag) : List TE → Str → List Cell → (Str → Prop) → Prop
  | [], acc, _, P => P acc
  | t :: ts, acc, Γ, P => bwE G K t Γ fun x => ∃ y : Str, x = .str y ∧ (acc ++ y).length ≤ sizeLine ∧ bwJs G K ts (acc ++ y) Γ P
theorem js_run : ∀ {ts : List TE} {acc : Str} {P : Str → Prop}, bwJs G K ts acc Γ P → ∀ (W : Wd) (σ : L2.St) (H : Hp) (Q : Str → Hp → Prop), Env G K W Γ σ H → (∀ z H', P z → Kp W.o H H' → Env G K W Γ σ H' → Q z H') → tJs ts acc σ H Q
  | [], acc, P, h, W, σ, H, Q, E, k => k acc H h Kp.refl E
  | t :: ts, acc, P, h, W, σ, H, Q, E, k => h W σ H _ E fun x v H1 p1 k1 E1 r1 => by
    obtain ⟨y, rfl, hz, p1⟩ := p1
    exact ⟨y, rp_str.mp r1, hz, js_run p1 W σ H1 Q E1 fun z H' pz k2 => k z H' pz (k1.trans k2)⟩
theorem joined {ts : List TE} (h : bwJs G K ts Str.empty Γ fun z => Post (.str z)) : bwE G K (fun σ H Q => tJs ts Str.empty σ H fun out H1 => Q (.str out) H1) Γ Post := fun W σ H Q E k =>
  js_run h W σ H _ E fun z H' pz k1 E1 => k _ _ H' pz k1 E1 (rp_str.mpr rfl)
theorem jsCons {t : TE} {ts : List TE} {acc : Str} {P : Str → Prop} (h : bwE G K t Γ fun x => ∃ y : Str, x = .str y ∧ (acc ++ y).length ≤ sizeLine ∧ bwJs G K ts (acc ++ y) Γ P) : bwJs G K (t :: ts) acc Γ P := h
theorem jsNil {acc : Str} {P : Str → Prop} (h : P acc) : bwJs G K [] acc Γ P := h
theorem fmtS (h : bwE G K te Γ fun x => ∃ y : Str, x = .str y ∧ y.length ≤ sizeLine ∧ Post (.str y)) : bwE G K (tFmt te) Γ Post := fun W σ H Q E k =>
  h W σ H _ E fun x v H1 p1 k1 E1 r1 => by
    obtain ⟨y, rfl, hz, p⟩ := p1
    exact .inl ⟨y, rp_str.mp r1, hz, k _ _ H1 p k1 E1 (rp_str.mpr rfl)⟩
theorem fmtI (h : bwE G K te Γ fun x => ∃ y : Int, x = .int y ∧ y.natAbs.log2 < 1920 ∧ Post (.str (toString y))) : bwE G K (tFmt te) Γ Post := fun W σ H Q E k =>
  h W σ H _ E fun x v H1 p1 k1 E1 r1 => by
    obtain ⟨y, rfl, hz, p⟩ := p1
    exact .inr ⟨y, rp_int.mp r1, hz, k _ _ H1 p k1 E1 (rp_str.mpr rfl)⟩
/-! ### isinstance of two classes -/
theorem kit_any {x : B} {S1 S2 : String} (hx : isPlainB x = true) (h1 : S1 ∈ ["bool", "int", "str", "tuple", "list", "dict"]) (h2 : S2 ∈ ["bool", "int", "str", "tuple", "list", "dict"]) : PySem.W.kitAny K (.type (BV.ty x)) [.type S1, .type S2] = some (isTy x S1 || isTy x S2) := by
  refine kitAny_cons (kit_is hx h1) (fun e => ?_) fun e => by rw [e]; rfl
  rw [e]
  refine kitAny_cons (kit_is hx h2) (fun e => ?_) fun e => by rw [e]; rfl
  rw [e]
  exact kitAny_nil
theorem isiT2 {S1 S2 : String} (h1 : S1 ∈ ["bool", "int", "str", "tuple", "list", "dict"]) (h2 : S2 ∈ ["bool", "int", "str", "tuple", "list", "dict"]) (h : bwE G K te Γ fun x => isPlainB x = true ∧ Post (.bl (isTy x S1 || isTy x S2))) :
    bwE G K (tCB (rIsiT K) (tCons te (tCons (tTup (tCons (tC (.ty S1)) (tCons (tC (.ty S2)) tNil))) tNil))) Γ Post := fun W σ H Q E k =>
  RD.cb (RD.cons (h W σ H _ E fun x v H1 p k1 E1 r1 => RD.cons (RD.tup (RD.cons (RD.c_ (RD.cons (RD.c_ (RD.nil ⟨Nat.le_of_ble_eq_true rfl, fun p0 np => RD.nil ⟨v, p0, _, _, _, _, rfl, upd_same, .cons (.ty S1) (.cons (.ty S2) .nil), ty_rp (r1.kp E1.zs (Kp.refl.nw np)) p.1, kit_any p.1 h1 h2, k _ _ _ p.2 (k1.nw np) (E1.nw np) (rp_bl.mpr rfl)⟩⟩))))))))
end
end BV

set_option Elab.async false
set_option linter.all false
set_option maxRecDepth 100000
set_option maxHeartbeats 4000000
/-! rules of our own: == of nested lists, tuples and dicts; an instance made in a try -/
namespace G3
open PySem PySem.Spec PyProof.Rows L2
/-- two tuples of equal items -/
def EqT (K : PySem.W.Frag) (H : Hp) (E : V → V → Prop) (x y : V) : Prop := ∃ a b xs ys, x = .ref a ∧ y = .ref b ∧ SqT K H a xs ∧ SqT K H b ys ∧ Paired E xs ys
def EqW (K : PySem.W.Frag) (H : Hp) : Nat → V → V → Prop
  | 0 => fun _ _ => False
  | n + 1 => fun x y => (x = y ∧ flatB x = true) ∨ (∃ a, x = .ref a ∧ y = .ref a) ∨ EqR K H (EqW K H n) x y ∨ EqT K H (EqW K H n) x y
section
variable {X : Cx} {pins : List (Addr × Obj)} {σ : L2.St} {H : Hp} {s : Shared}
theorem eqT_run (I : Inv X pins σ H s) {A : Around} {F : V → V → Prop} (hu : A.units < cLine) (ih : ∀ x y v u, F x y → RelV x v → RelV y u → SeqAt.EqP X.prog X.w A.in1 s v u true) {x y : V} {v u : Value} (h : EqT X.K H F x y) (rx : RelV x v) (ry : RelV y u)
    (E Q : Value → Shared → Prop) (q : Q (.bool true) s) : wpAny (model X.prog X.w) A (richCompare .Eq v u) Q E s := by
  obtain ⟨a, b, xs, ys, rfl, rfl, ha, hb, hp⟩ := h
  cases (show v = Value.ref a from rx)
  cases (show u = Value.ref b from ry)
  obtain ⟨us, r1, p1, _⟩ := I.tuple ha
  obtain ⟨ws, r2, p2, _⟩ := I.tuple hb
  have hsz : us.toArray.size = ws.toArray.size := by
    rw [List.size_toArray, List.size_toArray, ← r1.length, ← r2.length]
    exact Paired.length hp
  refine GQ.rc_tupG hsz hu (fun _ s' => s' = s) p1 p2 (fun j h1 h2 s' e => ?_) (fun s' e => by rw [e]; exact q) rfl
  subst e
  have k := items_run (P := X.prog) (w := X.w) (A := A.in1) (s := s') ih hp r1 r2 j (by simpa using h1) (by simpa using h2)
  have k2 : SeqAt.EqP X.prog X.w A.in1 s' us.toArray[j] ws.toArray[j] true := by simpa using k
  exact k2 E _ ⟨rfl, rfl⟩
theorem eqW_run (I : Inv X pins σ H s) : ∀ (n : Nat) (A : Around), A.units + n < cLine → ∀ (x y : V) (v u : Value), EqW X.K H n x y → RelV x v → RelV y u → SeqAt.EqP X.prog X.w A s v u true
  | 0, _, _, _, _, _, _, h, _, _ => (show False from h).elim
  | n + 1, A, hu, x, y, v, u, h, rx, ry => by
    have fin : (∃ a b, x = .ref a ∧ y = .ref b) → (∀ (E Q : Value → Shared → Prop), Q (.bool true) s → wpAny (model X.prog X.w) A (richCompare .Eq v u) Q E s) → SeqAt.EqP X.prog X.w A s v u true := fun e step => by
      obtain ⟨a, b, rfl, rfl⟩ := e
      cases (show v = Value.ref a from rx)
      cases (show u = Value.ref b from ry)
      by_cases e : a = b
      · subst e
        exact (SeqAt.EqAt.same _).eqP
      · exact SeqAt.eqP_refs e step
    have ih := eqW_run I n A.in1 (by show A.units + 1 + n < cLine; omega)
    rcases h with ⟨rfl, f⟩ | ⟨a, rfl, rfl⟩ | h | h
    · exact (eqAt_same rx ry f).eqP
    · cases (show v = Value.ref a from rx)
      cases (show u = Value.ref a from ry)
      exact (SeqAt.EqAt.same _).eqP
    · refine fin ?_ (eqR_run I (A := A) (by omega) ih h rx ry)
      rcases h with ⟨a, b, _, _, e1, e2, _⟩ | ⟨a, b, _, _, e1, e2, _⟩
      · exact ⟨a, b, e1, e2⟩
      · exact ⟨a, b, e1, e2⟩
    · refine fin ?_ (eqT_run I (A := A) (by omega) ih h rx ry)
      obtain ⟨a, b, _, _, e1, e2, _⟩ := h
      exact ⟨a, b, e1, e2⟩
end
section
variable {X : Cx}
/-- a == b, two lists, tuples or dicts that are equal -/
def rEqW (K : PySem.W.Frag) : R2 := fun x y H Q => ∃ n, n ≤ 60 ∧ (EqR K H (EqW K H n) x y ∨ EqT K H (EqW K H n) x y) ∧ Q (.bl true) H
theorem op_eqW (hu : X.A.units + 64 < cLine) : OpR X (compareOp .Eq) (rEqW X.K) := by
  intro pins s σ H x y v u Q I rx ry h
  obtain ⟨n, hn, h, q⟩ := h
  have ih := eqW_run I n X.A.in1 (by show X.A.units + 1 + n < cLine; omega)
  rcases h with h | h
  · exact eqR_run I (A := X.A) (by omega) ih h rx ry _ _ ⟨.bl true, H, I, rfl, q⟩
  · exact eqT_run I (A := X.A) (by omega) ih h rx ry _ _ ⟨.bl true, H, I, rfl, q⟩
end
/-! ### an instance made where its __init__ may raise, in a try -/
section
variable {X : Cx} {CX : CXT} {k : Nat} {f C : Addr} {fd : FuncData} {ps : List Str} {sp : Sp} {dvs : List V} {ds : List Value} {E : L2.St → XK} {x : Str} {p pos : Pos} {e : Expr} {es : List Expr} {t : TA}
theorem run_makeS {pins : List (Addr × Obj)} {σ : L2.St} {H : Hp} {s : Shared} {Q : VK} {us : List Value} {vs : List V} (M : Mk X.K C f) (F : FnOk X.prog X.w X.K X.mg X.base CX k f fd ps sp) (hr : Room (k + 1) X.A) (hb : Binds X.K fd ps ds) (hd : Vals dvs ds)
    (hx : PassesAt CX X σ (E σ)) (I : Inv X pins σ H s) (r : Vals vs us)
    (h : ∀ x dx, H x = none → H dx = none → dx ≠ x → sp (.ref x :: (vs ++ dvs)) (upd (upd H dx (.own x)) x (.ins C dx [])) (fun v H2 => v = .non ∧ Q (.ref x) H2) (E σ)) :
    wpAny (model X.prog X.w) X.A (call (.ref C) us) (EP X pins σ Q) X.xe s := by
  have hq := h (s.heap.objs.size + 1) s.heap.objs.size (I.hok.fresh (Nat.le_succ _)) (I.hok.fresh (Nat.le_refl _)) (Nat.ne_of_lt (Nat.lt_succ_self _))
  have I2 := Inv.made (C := C) I
  have r2 : Vals (V.ref (s.heap.objs.size + 1) :: (vs ++ dvs)) (Value.ref (s.heap.objs.size + 1) :: (us ++ ds)) := .cons rfl (r.append hd)
  have hl : (Value.ref (s.heap.objs.size + 1) :: us ++ ds).length = ps.length := by
    have e := r2.length
    rw [F.len _ _ _ _ hq] at e
    exact e.symm
  refine wpAny_call (make_map (f := f) I.kIn M.makes M.init (beq_iff_eq.mp M.fn) (codeAny_mono (F.run _ X.stack _ _ ⟨Value.ref (s.heap.objs.size + 1) :: us, []⟩ (Value.ref (s.heap.objs.size + 1) :: (us ++ ds)) _ _ (E σ) (hr.make C us [])
    (I2.env0.make C us []) (hb _ (Value.ref (s.heap.objs.size + 1) :: us) I2.kIn hl) r2 hq) fun r s' hq' => ?_))
  cases r with
  | error e => exact hx pins _ _ e s' I2 hq'
  | ok fl =>
    cases fl with
    | ret u =>
      obtain ⟨v, H', I3, rv, ev, q3⟩ := I2.after hq'
      subst ev
      exact ⟨rv, ⟨V.ref (s.heap.objs.size + 1), H', I3, rfl, q3⟩⟩
    | next => exact False.elim hq'
    | brk => exact False.elim hq'
    | cont => exact False.elim hq'
def tMakeS (C : Addr) (sp : Sp) (dvs : List V) (E : L2.St → XK) (t : TA) : TE := fun σ H Q => t σ H fun vs H1 => ∀ x dx, H1 x = none → H1 dx = none → dx ≠ x → sp (.ref x :: (vs ++ dvs)) (upd (upd H1 dx (.own x)) x (.ins C dx [])) (fun v H2 => v = .non ∧ Q (.ref x) H2) (E σ)
theorem pe_makeS (M : Mk X.K C f) (F : FnOk X.prog X.w X.K X.mg X.base CX k f fd ps sp) (hr : Room (k + 1) X.A) (hg : Gl X x) (hm : X.mg x = some (.ref C)) (hb : Binds X.K fd ps ds) (hd : Vals dvs ds) (hx : ∀ σ, PassesAt CX X σ (E σ))
    (ha : PA X (e :: es) t) (hdb : (x == ("__debug__" : Str)) = false := by decide) (he : starEach (e :: es) X.env = (false, eval e X.env) :: starEach es X.env := by rfl) (hpl : (backTo pos (starEach es X.env)).any (·.1) = false := by rfl) :
    PE X (.Call (.Name x p) (e :: es) [] pos) (tMakeS C sp dvs E t) := by
  refine ⟨fun pins s σ H Q I h => ?_⟩
  refine wpAny_Call_Name_kw (ld_glob I hg hm ?_ hdb)
  refine PySem.W.callWith_K (h₀ := X.base) I.ok.mod.kin M.kp (thn (ha.run pos pins s σ H _ I h) fun us s1 ⟨vs, H1, I1, r, q⟩ => ⟨I1.kIn, ?_⟩) he hpl
  exact run_makeS M F hr hb hd (hx σ) I1 r q
end
end G3

set_option Elab.async false
set_option linter.all false
set_option maxRecDepth 100000
set_option maxHeartbeats 4000000
/-! != of lists that are equal in depth; isinstance of a caught error that has a field -/
namespace G8
open PySem PySem.Spec PyProof.Rows L2
open AutoSeq1 (wpAny_loadPart')
open MeetsSeq MeetsSeq2 MeetsSeq3 SeqRoads2 SeqAt
section
variable {P : Program} {w : World}
/-- the walk of != over two lists of equal items -/
theorem neWalk (p q : Addr) (xs ys : Array Value) (m m2 : Nat) (da db : Option Addr) (la lb : Array (Option Value)) (hz : xs.size = ys.size) (rest : Nat) :
    ∀ i : Nat, xs.size - i = rest → MeetsIn P w (Builtin.«list.__eq__.loop» ⟨[.ref p, .ref q, rawInt i, rawInt 3], []⟩)
      (fun A R s => (s.heap.get? p = some { cls := .type "list", dict := da, data := .seq xs m, slots := la } ∧ s.heap.get? q = some { cls := .type "list", dict := db, data := .seq ys m2, slots := lb }) ∧ (∀ j (h1 : j < xs.size) (h2 : j < ys.size), SeqAt.EqP P w A.in1 s xs[j] ys[j] true) ∧ R (.ok (.ret (.bool false))) s) := by
  induction rest with
  | zero =>
    intro i hk A R s hh
    obtain ⟨hp, g, d, tk, os⟩ := s
    obtain ⟨⟨gp, gq⟩, _, hR⟩ := hh
    wp_walk using wpAny_loadPart' gp, wpAny_loadPart' gq
    have n1 : xs[((i : Nat) : Int).toNat]? = none := by simp; omega
    have n2 : ys[((i : Nat) : Int).toNat]? = none := by simp; omega
    rw [n1, n2]
    wp_walk using wpAny_loadPart' gp, wpAny_loadPart' gq
    show R (.ok (.ret (.bool (xs.size != ys.size)))) _
    rw [hz, bne_self_eq_false]
    exact hR
  | succ rest ih =>
    intro i hk A R s hh
    obtain ⟨hp, g, d, tk, os⟩ := s
    obtain ⟨⟨gp, gq⟩, each, hR⟩ := hh
    wp_walk using wpAny_loadPart' gp, wpAny_loadPart' gq
    have i1 : i < xs.size := by omega
    have i2 : i < ys.size := by omega
    have n1 : xs[((i : Nat) : Int).toNat]? = some xs[i] := by simp [i1]
    have n2 : ys[((i : Nat) : Int).toNat]? = some ys[i] := by simp [i2]
    have up : ((i : Int) + 1) = ((i + 1 : Nat) : Int) := rfl
    rw [n1, n2]
    refine wpAny_bind (each i i1 i2 _ _ ?_)
    wp_walk
    rw [up]
    exact ⟨plainId_quiet plain_eq_loop _, codeAny_builtin entry_eq_loop (by rw [Around.under_plainId plain_eq_loop _]; exact ih (i + 1) (by omega) A R _ ⟨⟨gp, gq⟩, each, hR⟩)⟩
theorem neList (p q : Addr) (xs ys : Array Value) (m m2 : Nat) (da db : Option Addr) (la lb : Array (Option Value)) (hz : xs.size = ys.size) : MeetsIn P w (Builtin.«list.__ne__» ⟨[.ref p, .ref q], []⟩)
      (fun A R s => (s.heap.get? p = some { cls := .type "list", dict := da, data := .seq xs m, slots := la } ∧ s.heap.get? q = some { cls := .type "list", dict := db, data := .seq ys m2, slots := lb }) ∧ (∀ j (h1 : j < xs.size) (h2 : j < ys.size), SeqAt.EqP P w A.in1 s xs[j] ys[j] true) ∧ R (.ok (.ret (.bool false))) s) := by
  intro A R s hh
  obtain ⟨hp, g, d, tk, os⟩ := s
  obtain ⟨⟨gp, gq⟩, each, hR⟩ := hh
  have k3 := AutoSeq1.sub_list_list
  have kz : ¬ (xs.size != ys.size) = true := by simp [hz]
  wp_walk using wpAny_loadPart' gp, wpAny_loadPart' gq
  exact ⟨plainId_quiet plain_eq_loop _, codeAny_builtin entry_eq_loop (by rw [Around.under_plainId plain_eq_loop _]; exact neWalk p q xs ys m m2 da db la lb hz _ 0 rfl A R _ ⟨⟨gp, gq⟩, each, hR⟩)⟩
theorem rcNe {A : Around} {s : Shared} {p q : Addr} {xs ys : Array Value} (hp : s.heap.IsList p xs) (hq : s.heap.IsList q ys) (hz : xs.size = ys.size) (hu : A.units < cLine) (each : ∀ j (h1 : j < xs.size) (h2 : j < ys.size), SeqAt.EqP P w A.in1 s xs[j] ys[j] true) (E Q : Value → Shared → Prop) (h : Q (.bool false) s) :
    wpAny (model P w) A (richCompare .NotEq (.ref p) (.ref q)) Q E s := by
  obtain ⟨⟨c1, da, dd1, la⟩, o1, e1, m, f1⟩ := id hp
  obtain ⟨⟨c2, db, dd2, lb⟩, o2, e2, m2, f2⟩ := id hq
  simp only at e1 f1 e2 f2
  subst e1 f1 e2 f2
  have t1 : s.TypeIs (.ref p) "list" := ⟨_, o1, rfl⟩
  have t2 : s.TypeIs (.ref q) "list" := ⟨_, o2, rfl⟩
  exact wpAny_richCompare_same_room (op := .NotEq) t1 t2 F.slot_list_ne (call_meetsIn F.slot_list_ne t1 F.entry_list_ne (F.args_list_ne_2 _ _) (neList p q xs ys m m2 da db la lb hz) ⟨⟨o1, o2⟩, each, show Value.bool false ≠ Value.notImplemented ∧ Q (.bool false) s from ⟨(fun x => nomatch x), h⟩⟩) hu
end
section
variable {X : Cx}
/-- a != b, two lists that are equal -/
def rNeW (K : PySem.W.Frag) : R2 := fun x y H Q => ∃ n a b xs ys, n ≤ 60 ∧ x = .ref a ∧ y = .ref b ∧ SqL K H a xs ∧ SqL K H b ys ∧ Paired (G3.EqW K H n) xs ys ∧ Q (.bl false) H
theorem op_neW (hu : X.A.units + 64 < cLine) : OpR X (compareOp .NotEq) (rNeW X.K) := by
  intro pins s σ H x y v u Q I rx ry h
  obtain ⟨n, a, b, xs, ys, hn, rfl, rfl, ha, hb, hp, q⟩ := h
  cases (show v = Value.ref a from rx)
  cases (show u = Value.ref b from ry)
  obtain ⟨us, r1, p1, _⟩ := I.list ha
  obtain ⟨ws, r2, p2, _⟩ := I.list hb
  have hz : us.toArray.size = ws.toArray.size := by rw [List.size_toArray, List.size_toArray, ← r1.length, ← r2.length]; exact Paired.length hp
  refine rcNe p1.isList p2.isList hz (by omega) (fun j h1 h2 => ?_) _ _ ⟨.bl false, H, I, rfl, q⟩
  have k := items_run (fun x y v u h r r' => G3.eqW_run I n X.A.in1 (by show X.A.units + 1 + n < cLine; omega) x y v u h r r') hp r1 r2 j (by simpa using h1) (by simpa using h2)
  simpa using k
end
/-! ### str of a text or an int -/
def rStr2 : List V → Hp → VK → Prop := fun xs H Q => (∃ i : Int, xs = [.int i] ∧ i.natAbs.log2 < 1920 ∧ Q (.str (toString i)) H) ∨ ∃ a : Str, xs = [.str a] ∧ Q (.str a) H
theorem call_str2 {X : Cx} : CallR X (.type "str") rStr2 := by
  intro pins s σ H xs us Q I r h
  rcases h with h | h
  · exact call_str_int pins s σ H xs us Q I r h
  · exact SkE.call_str_str pins s σ H xs us Q I r h
/-! ### isinstance(e, C), e a caught error of class D that has a dict -/
section
open PySem.W
variable {P : Program} {w : World} {A : Around} {E : Value → Shared → Prop} {s : Shared} {K : Frag} {x D : Addr} {ox : Obj} {od : Option Obj}
theorem findData {C : Addr} {y : Str} {a g : Value} (hc : (clsIn K C).isSome = true) (ha : findIn K (.ref C) y = some (some a)) (hg : specialIn K a "__get__" = some (some g)) (ht : takesIn K a = some true) : findObj K C od y = some (.bind g a) := by
  obtain ⟨cd, hc⟩ := Option.isSome_iff_exists.mp hc
  unfold findObj
  rw [hc, Option.bind_some, ha, Option.bind_some]
  simp [hg, ht]
theorem kinE (C : ExcC K D) {Q : Option Value → Shared → Prop} (X : K.In s.heap) (I : InstAt s.heap x ox D od) (hq : Q (some (.ref D)) { s with toks := s.toks + 1 }) : wpAny (model P w) A (getAttr? (.ref x) "__class__") Q E s := by
  have hf : findObj K D od "__class__" = some (.bind (.builtin "getset_descriptor.__get__") (.builtin "object.__class__")) := findData (by obtain ⟨cd, z, _⟩ := any_some C.hd; rw [z]; rfl) C.ha C.hn C.ht
  obtain ⟨hp, g, d, t, os⟩ := s
  have T0 := I.type (M := model P w)
  have T1 := looks_findIn (M := model P w) X C.hg
  have T2 := looks_findIn (M := model P w) X C.hk
  have T3 := looks_find (M := model P w) X I hf
  have isB : Looks (model P w) hp (isInstance (.ref x) (.type "BaseException")) true := T0.andThen (looks_subIn X C.hs)
  have b0 : (false && onTheHeap (Value.builtin "BaseException.__getattribute__")) = false := rfl
  have b2 : (Value.builtin "BaseException.__getattribute__" == Value.builtin "object.__getattribute__") = false := by decide +kernel
  have b1 : (onTheHeap (Value.ref D) && Value.builtin "BaseException.__getattribute__" == Value.builtin "object.__getattribute__") = false := by rw [b2]; rfl
  unfold getAttr? getAttrBy? getAttrBy
  refine wpAny_bind (wpAny_mkText (wpAny_bind (wpAny_attempt (wpAny_holding (wpAny_bind (T0.at (wpAny_bind (T1.at ?_))))))))
  show wpAny _ _ (if (onTheHeap (Value.ref D) && Value.builtin "BaseException.__getattribute__" == Value.builtin "object.__getattribute__") = true then _ else _) _ _ _
  rw [b1, if_neg Bool.false_ne_true]
  unfold getAttrByItsOwn hookBefore
  refine wpAny_bind ?_
  rw [if_pos (show onTheHeap (.ref D) = true from rfl)]
  refine T2.at (wpAny_bind (wpAny_attempt (wpAny_holding ?_)))
  unfold callGetattribute
  rw [b0, if_neg Bool.false_ne_true]
  unfold boundAndCalled
  rw [PySem.F.excAttr_ValueError.ga.bind (Value.ref x)]
  refine wpAny_bind (wpAny_pure (?_ : wpAny _ _ (call (.builtin "BaseException.__getattribute__") [.ref x, .str "__class__" t]) _ _ _))
  refine wpAny_call (codeAny_call_builtin PySem.F.excAttr_ValueError.ga.plain PySem.F.entry_bexc_ga (?_))
  refine @check_slot (model P w) _ _ ⟨hp, g, d, t + 1, os⟩ "BaseException.__getattribute__" "BaseException" "__getattribute__" (.ref x) [.str "__class__" t] [] _ (by decide +kernel) (by decide +kernel) isB (PySem.F.args_bexc_ga (.ref x) (.str "__class__" t)) ?_
  unfold Builtin.«object.__getattribute__»
  refine wpAny_bind (wpAny_of_eq (a := ((Value.ref x : Value), [Value.str "__class__" t])) (by first | rfl | (simp only [slotArgs]; exact rfl)) ?_)
  refine wpAny_bind (wpAny_pure (wpAny_bind (T0.at (wpAny_bind (T3.at ?_)))))
  show wpAny _ _ (holding [Value.builtin "object.__class__"] (call (.builtin "getset_descriptor.__get__") [.builtin "object.__class__", .ref x, .ref D]) >>= ret) _ _ _
  refine wpAny_bind (wpAny_holding (wpAny_call (class_get (s := ⟨hp, g, d, t + 1, os⟩) (ox := ox) (od := od) X I C.hm ?_)))
  refine wpAny_pure (?_ : wpAny _ _ (handedOut (.ref D)) _ _ _)
  rw [handedOut_of (v := .ref D) rfl]
  first
    | exact wpAny_pure (wpAny_pure hq)
    | exact wpAny_pure hq
    | exact wpAny_pure (wpAny_bind (wpAny_pure (wpAny_pure hq)))
theorem kitE (C : ExcC K D) : KitX K (.ref x) (.ref D) (fun h => InstAt h x ox D od) where
  ty := fun _ _ _ I => I.type
  it := fun _ _ X _ => by
    obtain ⟨cdD, hcD, _⟩ := any_some C.hd
    unfold clsIn at hcD
    split at hcD
    · rename_i c' d' cd' sl' hob
      intro A' Q' E' s' k q
      unfold isType loadHead
      exact wpAny_bind (wpAny_loadPart (k _ _ (X _ _ hob)) (wpAny_pure q))
    · cases hcD
  ne := fun h tp dd its n sl X htp => by
    obtain ⟨cdD, hcD, _⟩ := any_some C.hd
    refine Bool.eq_false_iff.mpr fun q => ?_
    obtain rfl : D = tp := Value.ref.inj (beq_iff_eq.mp q)
    unfold clsIn at hcD
    split at hcD
    · rename_i c' d' cd' sl' hob
      cases (X _ _ hob).symm.trans htp
    · cases hcD
  ca := fun X I k => kinE C X I k
end
/-- isinstance(e, c), e the error that the suite holds, d its dict -/
def rIsF (K : PySem.W.Frag) (D a : Addr) (cls : Value) (d : Option Addr) : List V → Hp → VK → Prop := fun xs H Q => ∃ (c : V) (cv : Value) (b : Bool) (dd : Addr) (fs : List (Str × V)), xs = [.ref a, c] ∧ cls = .ref D ∧ d = some dd ∧ H dd = some (.xd fs) ∧ (∀ u, RelV c u → u = cv) ∧ PySem.W.kitOne K (.ref D) cv = some b ∧ Q (.bl b) H
theorem call_isF {X : Cx} {a D : Addr} {oe : Obj} {cls : Value} {d : Option Addr} {pn : List (Addr × Obj)} (C : ExcC X.K D) (hz : Zc cls d oe) (hf : ∃ vs, oe.data = .fields vs) : CallR (X.suite a ((a, oe) :: pn)) (.builtin "isinstance") (rIsF X.K D a cls d) := by
  intro pins s σ H xs us Q I r h
  obtain ⟨c, cv, b, dd, fs, rfl, rfl, rfl, hd, hcv, e, q⟩ := h
  obtain ⟨u1, u2, rfl, r1, r2⟩ := vals2 r
  cases (show u1 = Value.ref a from r1)
  obtain rfl := hcv _ r2
  obtain ⟨hget, _⟩ := I.pin (a, oe) (List.mem_append.mpr (.inl List.mem_cons_self))
  obtain ⟨vs, hv⟩ := hf
  have hx : ObjOk X.prog X.w H s.heap dd (.xd fs) := I.hok dd _ hd
  obtain ⟨mA, hns, _⟩ := hx
  obtain ⟨od, ho, _⟩ := lookIn_ns hns
  have J : PySem.W.InstAt s.heap a oe D (some od) := ⟨hget, hz.1, by unfold PySem.W.notCls; rw [hv] <;> rfl, by rw [hz.2]; exact ho⟩
  exact PySem.W.kia_one (kitE C) I.kIn J e (fun z => nomatch z) fun tk => ⟨.bl b, H, I.kept (t' := tk) fun _ _ z => z, rfl, q⟩
end G8

set_option Elab.async false
set_option linter.all false
set_option maxRecDepth 100000
set_option maxHeartbeats 4000000
/-! by value: own lists that grow and shrink; == in depth; defs that raise -/
namespace BV
open PySem PySem.Spec PyProof.Rows L2 G0
section
variable {G : DK} {K : PySem.W.Frag} {W : Wd} {Γ : List Cell} {σ : L2.St} {H H' H1 : Hp} {Post P : B → Prop} {te ta tb : TE} {t tr : TA} {Z Z' : AS} {o : Sr} {t1 t2 : TS} {e : En}
/-! ### x op= e; truth -/
theorem augI {i : Nat} {x : Int} {f : Int → Int → Int} (h : Γ[i]? = some (.sh (.int x))) (q : bwE G K te Γ fun y => ∃ j, y = .int j ∧ e.N (Γ.set i (.sh (.int (f x j))))) : bwS G K (tAug i te (ipI f)) Γ e := fun W σ H D E q1 q2 q3 q4 => by
  obtain ⟨v, h1, h2⟩ := E.sh i _ h
  rw [rp_int.mp h2] at h1
  refine RD.aug h1 (q W σ H _ E fun y u H1 p k1 E1 r1 => ?_)
  obtain ⟨j, rfl, p⟩ := p
  exact ⟨x, j, rfl, rp_int.mp r1, q1 _ _ _ p (E1.set (rp_int.mpr rfl))⟩
def truB : B → Option Bool
  | .non => some false
  | .bl b => some b
  | .int i => some (i != 0)
  | .tup ds => some (!ds.isEmpty)
  | .lst ds => some (!ds.isEmpty)
  | _ => none
theorem isEmpty_rps {ds : List B} {vs : List V} (h : Rps K Z o H ds vs) : (!ds.isEmpty) = !vs.isEmpty := by
  cases ds with
  | nil => rw [rps_nil.mp h]; rfl
  | cons d ds => obtain ⟨v, r, rfl, _⟩ := rps_cons.mp h; rfl
theorem tru {PB : Bool → Prop} (h : bwE G K te Γ fun x => ∃ k, truB x = some k ∧ PB k) : bwT G K (fun σ H Q => te σ H fun x H' => ∃ k, TruV K x H' k ∧ Q k H') Γ PB := fun W σ H Q E k =>
  h W σ H _ E fun x v H1 p k1 E1 r1 => by
    obtain ⟨b, hb, p⟩ := p
    refine ⟨b, ?_, k b H1 p k1 E1⟩
    cases x with
    | non => rw [rp_non.mp r1]; exact (Option.some.inj hb).symm
    | bl _ => rw [rp_bl.mp r1]; exact (Option.some.inj hb).symm
    | int _ => rw [rp_int.mp r1]; exact (Option.some.inj hb).symm
    | tup ds =>
      obtain ⟨p, vs, rfl, h1, h2⟩ := rp_tup.mp r1
      exact .inr (.inl ⟨vs, h1.sq, (Option.some.inj hb).symm.trans (isEmpty_rps h2)⟩)
    | lst ds =>
      obtain ⟨p, vs, rfl, _, h1, h2⟩ := rp_lst.mp r1
      exact .inl ⟨vs, SqL.of h1, (Option.some.inj hb).symm.trans (isEmpty_rps h2)⟩
    | str _ => cases hb
    | dct _ _ => cases hb
    | src => cases hb
    | raw _ => cases hb
    | xc _ _ _ _ => cases hb
theorem truO {PB : Bool → Prop} {i : Nat} {ds : List B} (h : Γ[i]? = some (.ow (.lst ds))) (q : PB (!ds.isEmpty)) : bwT G K (fun σ H Q => tVar i σ H fun x H' => ∃ k, TruV K x H' k ∧ Q k H') Γ PB := fun W σ H Q E k => by
  obtain ⟨p, h1, _, _, vs, h4, h5⟩ := E.ow i _ h
  exact RD.var h1 ⟨_, .inl ⟨vs, SqL.of h4, isEmpty_rps h5⟩, k _ H q Kp.refl E⟩
theorem str2I {i : Int} (hi : i.natAbs.log2 < 1920) (q : Post (.str (toString i))) : bwRA G K G8.rStr2 [.int i] Post := fun W Γ σ H vs Q E r k => by
  obtain ⟨v, r, rfl, a1, a2⟩ := rps_cons.mp r
  obtain rfl := rps_nil.mp a2
  rw [rp_int.mp a1]
  exact .inl ⟨i, rfl, hi, k _ _ H q Kp.refl E (rp_str.mpr rfl)⟩
theorem str2S {z : Str} (q : Post (.str z)) : bwRA G K G8.rStr2 [.str z] Post := fun W Γ σ H vs Q E r k => by
  obtain ⟨v, r, rfl, a1, a2⟩ := rps_cons.mp r
  obtain rfl := rps_nil.mp a2
  rw [rp_str.mp a1]
  exact .inr ⟨z, rfl, k _ _ H q Kp.refl E (rp_str.mpr rfl)⟩
theorem at0' {α : Type} {x : α} {r : List α} : atI (x :: r) 0 = some x := at_n (n := 0) rfl
theorem neg1 {i : Int} (q : Post (.int (-i))) : bwR1 G K (rU fun i => .int (-i)) (.int i) Post := fun W Γ σ H v Q E r k => by
  rw [rp_int.mp r]
  exact ⟨i, rfl, k _ _ H q Kp.refl E (rp_int.mpr rfl)⟩
/-- any item of a list -/
theorem ixAny {ds : List B} {k : Nat} (h : k < ds.length) (q : ∀ d, d ∈ ds → Post d) : bwR2 G K (rIxL K) (.lst ds) (.int k) Post := ixL (at_n (List.getElem?_eq_getElem h)) (q _ (List.getElem_mem h))
theorem ixAll (p : B → Bool) {ds : List B} {k : Nat} (h : k < ds.length) (ha : ds.all p = true) (q : ∀ d, p d = true → Post d) : bwR2 G K (rIxL K) (.lst ds) (.int k) Post := ixAny h fun d hd => q d (List.all_eq_true.mp ha d hd)
/-! ### own lists -/
theorem off_own {i : Nat} {b : B} {p : Addr} {u : HO} (h : Γ[i]? = some (.ow b)) (h1 : σ[i]? = some (some (.ref p))) : ∀ c v, (¬ ZZ W Γ σ c ∨ isS W.o c) → ¬ ZZ W Γ σ c → H c = some v → upd H p u c = some v := fun c v _ n hc => by
  rw [upd_ne fun e => n (.inr ⟨i, _, h, by rw [e]; exact h1⟩)]
  exact hc
theorem asgPop {i j : Nat} {ds : List B} {d : B} (h : Γ[i]? = some (.ow (.lst (ds ++ [d])))) (q : e.N ((Γ.set i (.ow (.lst ds))).set j (.sh d))) : bwS G K (tAsg (tBM0 K "list" rPop (tVar i)) (gName j)) Γ e := fun W σ H D E q1 q2 q3 q4 => by
  obtain ⟨p, h1, h2, h3, vs, h4, h5⟩ := E.ow i _ h
  have hl := rps_len h5
  rw [List.length_append, List.length_singleton] at hl
  obtain ⟨v, hv, rv⟩ := rps_at (i := ds.length) (d := d) h5 (by simp)
  refine RD.asg (RD.bm0 (RD.var h1 ⟨.inl ⟨rfl, _, SqL.of h4⟩, p, vs, v, rfl, rfl, h4, by rw [← hl]; exact hv, RD.gname (q1 _ _ _ q ?_)⟩))
  have off := off_own (W := W) (H := H) (u := .lst vs.dropLast) h h1
  have hd := rps_take ds.length h5
  rw [List.take_left, ← show vs.length - 1 = ds.length by omega, ← List.dropLast_eq_take] at hd
  have E2 := E.mut (b' := .lst ds) (u := .lst vs.dropLast) h h1 ⟨_, upd_same, hd.off off⟩
  have hzz : ∀ c, ZZ W (Γ.set i (.ow (.lst ds))) σ c → ZZ W Γ σ c := fun c z => by
    rcases z with z | ⟨k, b, k1, k2⟩
    · exact .inl z
    · by_cases hk : i = k
      · subst hk
        exact .inr ⟨i, _, h, k2⟩
      · rw [List.getElem?_set_ne hk] at k1
        exact .inr ⟨k, b, k1, k2⟩
  exact E2.set ((rv.off off).less hzz)
theorem extend {i : Nat} {ds : List B} (h : Γ[i]? = some (.ow (.lst ds))) (q : bwE G K te Γ fun b => ∃ es, b = .lst es ∧ ds.length + es.length ≤ sizeLine ∧ e.N (Γ.set i (.ow (.lst (ds ++ es))))) : bwS G K (tDrop (tBM K "list" rExtend (tVar i) (tCons te tNil))) Γ e := fun W σ H D E q1 q2 q3 q4 => by
  obtain ⟨p, h1, h2, h3, vs, h4, h5⟩ := E.ow i _ h
  refine RD.drop (RD.bm ⟨.ref p, h1, .inl ⟨rfl, _, SqL.of h4⟩, RD.cons (q W σ H _ E fun b v H1 pb k1 E1 r1 => RD.nil ?_)⟩)
  have hp1 := k1 p _ (E.noS h h1) h4
  obtain ⟨es, rfl, hz, n⟩ := pb
  obtain ⟨pe, ws, rfl, he, h6, h7⟩ := rp_lst.mp r1
  refine ⟨p, pe, vs, ws, rfl, rfl, hp1, h6, by rw [← rps_len h5, ← rps_len h7]; exact hz, q1 _ _ _ n (E1.mut h h1 ⟨vs ++ ws, upd_same, ?_⟩)⟩
  have off := off_own (W := W) (H := H1) (u := .lst (vs ++ ws)) h h1
  exact rps_app ((h5.kp E.zs k1).off off) (h7.off off)
/-! ### equal in depth -/
mutual
/-- data of nesting below n; keys of dicts are unlike -/
def finB : Nat → B → Bool
  | _, .src => false
  | _, .raw _ => false
  | _, .xc _ _ _ _ => false
  | n, .tup ds => decide (0 < n) && finsB (n - 1) ds
  | n, .lst ds => decide (0 < n) && finsB (n - 1) ds
  | n, .dct ks ds => decide (0 < n) && (decide (ks.length = ds.length) && (decide ks.Nodup && finsB (n - 1) ds))
  | n, _ => decide (0 < n)
def finsB : Nat → List B → Bool
  | _, [] => true
  | n, d :: ds => finB n d && finsB n ds
end
theorem val_zip {k : Key} {v : V} : ∀ {ks : List Key} {vs : List V} {i : Nat}, ks.Nodup → ks[i]? = some k → vs[i]? = some v → valV (ks.zip vs) k = some v
  | [], vs, i, _, h1, _ => by simp at h1
  | a :: ks, [], i, _, _, h2 => by simp at h2
  | a :: ks, w :: vs, 0, _, h1, h2 => by
    obtain rfl : a = k := by simpa using h1
    obtain rfl : w = v := by simpa using h2
    unfold valV
    rw [List.zip_cons_cons, List.find?_cons, decide_eq_true rfl]
    rfl
  | a :: ks, w :: vs, i + 1, nd, h1, h2 => by
    have h1' : ks[i]? = some k := by simpa using h1
    have ha : a ≠ k := fun e => (List.nodup_cons.mp nd).1 (by rw [e]; exact List.mem_of_getElem? h1')
    unfold valV
    rw [List.zip_cons_cons, List.find?_cons, decide_eq_false ha]
    exact val_zip (List.nodup_cons.mp nd).2 h1' (by simpa using h2)
theorem pair_at {R : V → V → Prop} {xs ys : List V} (h : Paired R xs ys) : ∀ {i : Nat} {x : V}, xs[i]? = some x → ∃ y, ys[i]? = some y ∧ R x y := by
  induction h with
  | nil => intro i x e; simp at e
  | cons a _ ih =>
    intro i x e
    cases i with
    | zero =>
      obtain rfl := Option.some.inj e
      exact ⟨_, rfl, a⟩
    | succ i => exact ih (by simpa using e)
mutual
theorem eq_rp {o' : Sr} (nl : ∀ p, ¬ o.L p) (nl' : ∀ p, ¬ o'.L p) : ∀ {n : Nat} {b : B} {x y : V}, finB n b = true → Rp K Z o H b x → Rp K Z' o' H b y → G3.EqW K H n x y
  | 0, b, x, y, h, _, _ => by cases b <;> simp [finB] at h
  | n + 1, .non, x, y, _, r1, r2 => by rw [rp_non.mp r1, rp_non.mp r2]; exact .inl ⟨rfl, rfl⟩
  | n + 1, .bl _, x, y, _, r1, r2 => by rw [rp_bl.mp r1, rp_bl.mp r2]; exact .inl ⟨rfl, rfl⟩
  | n + 1, .int _, x, y, _, r1, r2 => by rw [rp_int.mp r1, rp_int.mp r2]; exact .inl ⟨rfl, rfl⟩
  | n + 1, .str _, x, y, _, r1, r2 => by rw [rp_str.mp r1, rp_str.mp r2]; exact .inl ⟨rfl, rfl⟩
  | n + 1, .src, x, y, h, _, _ => by simp [finB] at h
  | n + 1, .raw _, x, y, h, _, _ => by simp [finB] at h
  | n + 1, .xc _ _ _ _, x, y, h, _, _ => by simp [finB] at h
  | n + 1, .tup ds, x, y, h, r1, r2 => by
    rw [finB, Bool.and_eq_true] at h
    obtain ⟨p, vs, rfl, h1, h2⟩ := rp_tup.mp r1
    obtain ⟨q, ws, rfl, h3, h4⟩ := rp_tup.mp r2
    exact .inr (.inr (.inr ⟨p, q, vs, ws, rfl, rfl, h1.sq, h3.sq, eqs_rp nl nl' h.2 h2 h4⟩))
  | n + 1, .lst ds, x, y, h, r1, r2 => by
    rw [finB, Bool.and_eq_true] at h
    obtain ⟨p, vs, rfl, _, h1, h2⟩ := rp_lst.mp r1
    obtain ⟨q, ws, rfl, _, h3, h4⟩ := rp_lst.mp r2
    exact .inr (.inr (.inl (.inl ⟨p, q, vs, ws, rfl, rfl, SqL.of h1, SqL.of h3, eqs_rp nl nl' h.2 h2 h4⟩)))
  | n + 1, .dct ks ds, x, y, h, r1, r2 => by
    rw [finB, Bool.and_eq_true, Bool.and_eq_true, Bool.and_eq_true] at h
    obtain ⟨p, vs, rfl, _, h1, hl, h2⟩ := rp_dct.mp r1
    obtain ⟨q, ws, rfl, _, h3, hl', h4⟩ := rp_dct.mp r2
    have h1 := h1.elim id fun ⟨z, _⟩ => absurd z (nl p)
    have h3 := h3.elim id fun ⟨z, _⟩ => absurd z (nl' q)
    have hp := eqs_rp nl nl' h.2.2.2 h2 h4
    refine .inr (.inr (.inl (.inr ⟨p, q, _, _, rfl, rfl, h1, h3, by rw [List.length_zip, List.length_zip]; omega, fun kv hm => ?_⟩)))
    obtain ⟨i, hi⟩ := List.getElem?_of_mem hm
    have hz := List.getElem?_zip_eq_some.mp hi
    obtain ⟨u, hu, e⟩ := pair_at hp hz.2
    exact ⟨u, val_zip (of_decide_eq_true h.2.2.1) hz.1 hu, e⟩
theorem eqs_rp {o' : Sr} (nl : ∀ p, ¬ o.L p) (nl' : ∀ p, ¬ o'.L p) : ∀ {n : Nat} {ds : List B} {xs ys : List V}, finsB n ds = true → Rps K Z o H ds xs → Rps K Z' o' H ds ys → Paired (G3.EqW K H n) xs ys
  | n, [], xs, ys, _, r1, r2 => by rw [rps_nil.mp r1, rps_nil.mp r2]; exact .nil
  | n, d :: ds, xs, ys, h, r1, r2 => by
    rw [finsB, Bool.and_eq_true] at h
    obtain ⟨x, r, rfl, a1, a2⟩ := rps_cons.mp r1
    obtain ⟨y, r', rfl, b1, b2⟩ := rps_cons.mp r2
    exact .cons (eq_rp nl nl' h.1 a1 b1) (eqs_rp nl nl' h.2 a2 b2)
end
/-- two equal lists: not != -/
theorem neW (n : Nat) {ds : List B} (hU : G.U) (hn : n ≤ 60) (hf : finsB n ds = true) (q : Post (.bl false)) : bwR2 G K (G8.rNeW K) (.lst ds) (.lst ds) Post := fun W Γ σ H v u Q E r1 r2 k => by
  obtain ⟨p, vs, rfl, _, h1, h2⟩ := rp_lst.mp r1
  obtain ⟨p', ws, rfl, _, h3, h4⟩ := rp_lst.mp r2
  exact ⟨n, p, p', vs, ws, hn, rfl, rfl, SqL.of h1, SqL.of h3, eqs_rp (E.lk hU) (E.lk hU) hf h2 h4, k _ _ H q Kp.refl E (rp_bl.mpr rfl)⟩
theorem eqWl (n : Nat) {ds : List B} (hU : G.U) (hn : n ≤ 60) (hf : finsB n ds = true) (q : Post (.bl true)) : bwR2 G K (G3.rEqW K) (.lst ds) (.lst ds) Post := fun W Γ σ H v u Q E r1 r2 k => by
  obtain ⟨p, vs, rfl, _, h1, h2⟩ := rp_lst.mp r1
  obtain ⟨p', ws, rfl, _, h3, h4⟩ := rp_lst.mp r2
  exact ⟨n, hn, .inl (.inl ⟨p, p', vs, ws, rfl, rfl, SqL.of h1, SqL.of h3, eqs_rp (E.lk hU) (E.lk hU) hf h2 h4⟩), k _ _ H q Kp.refl E (rp_bl.mpr rfl)⟩
end
end BV

set_option Elab.async false
set_option linter.all false
set_option maxRecDepth 100000
set_option maxHeartbeats 4000000
/-! by value: defs that raise, and what is caught -/
namespace BV
open PySem PySem.Spec PyProof.Rows L2 G0
/-- objects that data are made of -/
def datO : HO → Bool
  | .lst _ => true | .tup _ => true | .dK _ => true | .frz _ _ => true | .xd _ => true
  | _ => false
section
variable {G : DK} {K : PySem.W.Frag} {W : Wd} {Γ : List Cell} {σ : L2.St} {H H' H1 : Hp} {Post P : B → Prop} {te ta tb : TE} {t tr : TA} {Z Z' : AS} {o : Sr} {t1 t2 : TS} {e : En}
mutual
/-- off Z what data are made of stays -/
theorem Rp.offD (e : ∀ b u, ¬ Z b → datO u = true → H b = some u → H' b = some u) : ∀ {d : B} {v : V}, Rp K Z o H d v → Rp K Z o H' d v
  | .non, v, h => by rw [rp_non] at h ⊢; exact h
  | .bl _, v, h => by rw [rp_bl] at h ⊢; exact h
  | .int _, v, h => by rw [rp_int] at h ⊢; exact h
  | .str _, v, h => by rw [rp_str] at h ⊢; exact h
  | .raw _, v, h => by rw [rp_raw] at h ⊢; exact h
  | .src, v, h => by rw [rp_src] at h ⊢; exact h
  | .tup ds, v, h => by
    obtain ⟨p, vs, rfl, h1, h2⟩ := rp_tup.mp h
    refine rp_tup.mpr ⟨p, vs, rfl, ?_, Rps.offD e h2⟩
    rcases h1 with ⟨h1, hz⟩ | h1
    · exact .inl ⟨e _ _ hz rfl h1, hz⟩
    · exact .inr h1
  | .lst ds, v, h => by
    obtain ⟨p, vs, rfl, hz, h1, h2⟩ := rp_lst.mp h
    exact rp_lst.mpr ⟨p, vs, rfl, hz, e _ _ hz rfl h1, Rps.offD e h2⟩
  | .dct ks ds, v, h => by
    obtain ⟨p, vs, rfl, hz, h1, hl, h2⟩ := rp_dct.mp h
    refine rp_dct.mpr ⟨p, vs, rfl, hz, ?_, hl, Rps.offD e h2⟩
    rcases h1 with h1 | ⟨hL, od, h1⟩
    · exact .inl (e _ _ hz rfl h1)
    · exact .inr ⟨hL, od, e _ _ hz rfl h1⟩
  | .xc a d f b, v, h => by
    obtain ⟨rfl, hz, u, h1, h2⟩ := rp_xc.mp h
    exact rp_xc.mpr ⟨rfl, hz, u, e _ _ hz rfl h1, Rp.offD e h2⟩
theorem Rps.offD (e : ∀ b u, ¬ Z b → datO u = true → H b = some u → H' b = some u) : ∀ {ds : List B} {vs : List V}, Rps K Z o H ds vs → Rps K Z o H' ds vs
  | [], vs, h => by rw [rps_nil] at h ⊢; exact h
  | d :: ds, vs, h => by
    obtain ⟨v, r, rfl, h1, h2⟩ := rps_cons.mp h
    exact rps_cons.mpr ⟨v, r, rfl, Rp.offD e h1, Rps.offD e h2⟩
end
/-- a name is gone -/
theorem Env.unset (E : Env G K W Γ σ H) {i : Nat} {x : B} (hx : Γ[i]? = some (.sh x)) : Env G K W (Γ.set i .no) (σ.set i none) H := by
  have old : ∀ {j : Nat} {c : Cell}, (Γ.set i .no)[j]? = some c → c ≠ .no → i ≠ j ∧ Γ[j]? = some c ∧ (σ.set i none)[j]? = σ[j]? := fun {j c} h n => by
    by_cases hj : i = j
    · subst hj
      rw [List.getElem?_set] at h
      simp at h
      exact absurd h.2.symm n
    · rw [List.getElem?_set_ne hj] at h
      exact ⟨hj, h, List.getElem?_set_ne hj⟩
  have ls : ∀ p, ZZ W (Γ.set i .no) (σ.set i none) p → ZZ W Γ σ p := fun p z => z.imp id fun ⟨j, b, h1, h2⟩ => by
    obtain ⟨_, a1, a2⟩ := old h1 (fun z => nomatch z)
    exact ⟨j, b, a1, a2 ▸ h2⟩
  refine ⟨by rw [List.length_set, List.length_set, E.len], E.dok, fun st cl e => ⟨(E.src st cl e).1, fun z => (E.src st cl e).2 (ls _ z)⟩, E.kp, E.zt, fun c u hc => (E.tmp c u hc).less ls, fun j c hc => ?_, fun j c hc => ?_, fun j k c d p h1 h2 h3 h4 => ?_, E.lk, E.wok, E.kx, E.zx, fun a u h => ⟨(E.tm2 a u h).1, fun z => (E.tm2 a u h).2 (ls _ z)⟩⟩
  · obtain ⟨_, h1, h2⟩ := old hc (fun z => nomatch z)
    obtain ⟨u, e1, e2⟩ := E.sh j c h1
    exact ⟨u, h2.trans e1, e2.less ls⟩
  · obtain ⟨_, h1, h2⟩ := old hc (fun z => nomatch z)
    obtain ⟨p, e1, e2, e3, e4⟩ := E.ow j c h1
    exact ⟨p, h2.trans e1, e2, e3, e4.mv fun b n _ z => n (ls b z)⟩
  · obtain ⟨_, a1, a2⟩ := old h1 (fun z => nomatch z)
    obtain ⟨_, b1, b2⟩ := old h2 (fun z => nomatch z)
    exact E.dis j k c d p a1 b1 (a2 ▸ h3) (b2 ▸ h4)
/-! ### what a def lets out -/
def xOut (E : XK) (C : Addr) (f : Option Str) (H0 : Hp) (v : V) (H' : Hp) : Prop := match f with
  | none => E (.ref C) none H'
  | some f => ∀ d, H0 d = none → H' d = some (.xd [(f, v)]) → E (.ref C) (some d) H'
/-- where errors of the classes xs go to E -/
def DK.wx (G : DK) (K : PySem.W.Frag) (xs : List (Addr × Option Str)) (XP : Addr → B → Prop) (E : XK) : DK := { G with wok := fun HX ZX o => ∀ C f, (C, f) ∈ xs → ∀ (b : B) (v : V) (H' : Hp), XP C b → Kp o HX H' → (∀ st cl, o.s = some (st, cl) → G.D H' st cl) → Rp K ZX o H' b v → xOut E C f HX v H' }
/-- a def that may raise -/
def SpX (G : DK) (K : PySem.W.Frag) (xs : List (Addr × Option Str)) (Wp : List B → (B → Prop) → (Addr → B → Prop) → Prop) : Sp := fun vs H Q E => ∃ (Z : AS) (o : Sr) (bs : List B) (R : B → Prop) (XP : Addr → B → Prop), (G.U → ∀ p, ¬ o.L p) ∧ (∀ st cl, o.s = some (st, cl) → G.D H st cl ∧ Z st ∧ ¬ Z cl) ∧ (∀ p, Z p → H p ≠ none) ∧ Rps K Z o H bs vs ∧ Wp bs R XP ∧
  (∀ (b : B) (v : V) (H' : Hp), R b → Kp o H H' → (∀ st cl, o.s = some (st, cl) → G.D H' st cl) → Rp K Z o H' b v → Q v H') ∧ (G.wx K xs XP E).wok H Z o
variable {xs : List (Addr × Option Str)} {XP : Addr → B → Prop} {E : XK}
theorem spLenX {Wp : List B → (B → Prop) → (Addr → B → Prop) → Prop} {n : Nat} (hn : ∀ bs R XP, Wp bs R XP → bs.length = n) {vs : List V} {H : Hp} {Q : VK} {E : XK} (h : SpX G K xs Wp vs H Q E) : vs.length = n := by
  obtain ⟨Z, o, bs, R, XP, _, _, _, hR, hW, _⟩ := h
  rw [← rps_len hR]
  exact hn _ _ _ hW
theorem bodyX {Wp : List B → (B → Prop) → (Addr → B → Prop) → Prop} {vs : List V} {H : Hp} {Q : VK} {E : XK} (h : SpX G K xs Wp vs H Q E) (N : List Str) {ts : TS}
    (k : ∀ bs R XP, Wp bs R XP → bs.length = vs.length → bwS (G.wx K xs XP E) K ts (bs.map Cell.sh ++ List.replicate (N.length - bs.length) .no) ⟨fun _ => R .non, R, fun _ => False, fun _ => False⟩) : ts { nx := fun _ H' => Q .non H', rt := Q } (L2.start N vs) H := by
  obtain ⟨Z, o, bs, R, XP, hU, hD, hz, hR, hW, q, hw⟩ := h
  exact bodyC (G := G.wx K xs XP E) hU hD hz hR hw q N (k bs R XP hW (rps_len hR))
theorem lo_wx : (G.wx K xs XP E).lo = G.lo := rfl
theorem callW {Wp : List B → (B → Prop) → Prop} {E' : XK} (h : bwA (G.wx K xs XP E) K t Γ fun bs => Wp bs Post) : bwE (G.wx K xs XP E) K (tCall (SpB G K Wp) [] E' t) Γ Post := call (G := G.wx K xs XP E) h
theorem callLoW {Wp : List B → (B → Prop) → Prop} {E' : XK} (h : bwA (G.wx K xs XP E) K t Γ fun bs => Wp bs Post) : bwE (G.wx K xs XP E) K (tCall (SpB G.lo K Wp) [] E' t) Γ Post := callLo (G := G.wx K xs XP E) h
/-- .. of a def whose errors are let through -/
theorem callX {xs' : List (Addr × Option Str)} {Wp : List B → (B → Prop) → (Addr → B → Prop) → Prop} (hs : ∀ y ∈ xs', y ∈ xs) (h : bwA (G.wx K xs XP E) K t Γ fun bs => Wp bs Post XP) : bwE (G.wx K xs XP E) K (tCallS (SpX G K xs' Wp) (WE fun cls d _ H => E cls d H) t) Γ Post := fun W σ H Q Ev k =>
  h W σ H _ Ev fun bs vs H1 p1 k1 E1 r1 => ⟨ZZ W Γ σ, W.o, bs, Post, XP, E1.lk, fun st cl e => ⟨E1.dok st cl e, .inl (E1.src st cl e).1, (E1.src st cl e).2⟩, E1.zz, r1, p1, fun b v H2 pb k2 d2 r2 => k b v H2 pb (k1.trans k2) (E1.step k2 d2) r2, fun C f hm b v H2 pb k2 d2 r2 => by
    have := E1.wok C f (hs _ hm) b v H2 pb (E1.kx.trans (E1.kp.trans k2)) d2 (r2.less fun p z => .inl (E1.zx p z).1)
    cases f with
    | none => exact this
    | some f => exact fun d hd hx => this d (by
      cases q : W.HX d with
      | none => rfl
      | some u =>
        obtain ⟨f1, f2, f3⟩ := E1.fresh hd
        rw [E1.kx d u f3 q] at f1
        cases f1) hx⟩
/-- what an except suite finds: its name i is gone at the end -/
def asE (i : Nat) (e : En) : En := ⟨fun g => ∃ x, g[i]? = some (.sh x) ∧ e.N (g.set i .no), e.R, fun g => ∃ x, g[i]? = some (.sh x) ∧ e.Bk (g.set i .no), fun g => ∃ x, g[i]? = some (.sh x) ∧ e.Ct (g.set i .no)⟩
theorem tryC {xs : List (Addr × Option Str)} {Wp : List B → (B → Prop) → (Addr → B → Prop) → Prop} {c : Value} {i j : Nat} {ts : Addr → Value → Option Addr → TS} {Wout : WX} (hi : i < Γ.length) (hc : ∀ C f, (C, f) ∈ xs → PySem.W.exmOne K (.ref C) c = some true ∧ f ≠ none)
    (h : bwA G K t Γ fun bs => Wp bs (fun b => bwS G K t2 (Γ.set j (.sh b)) e) fun C b => ∀ (a d : Addr) (f : Str), (C, some f) ∈ xs → bwS G K (ts a (.ref C) (some d)) (Γ.set i (.sh (.xc a d f b))) (asE i e)) :
    bwS G K (fun D σ H => tSeq (tAsg (tCallS (SpX G K xs Wp) (WE (wAs K c i ts Wout D)) t) (gName j)) t2 D σ H) Γ e := fun W σ H D Ev q1 q2 q3 q4 => by
  refine RD.seq (RD.asg (h W σ H _ Ev fun bs vs H1 p1 k1 E1 r1 => ⟨ZZ W Γ σ, W.o, bs, _, _, E1.lk, fun st cl e => ⟨E1.dok st cl e, .inl (E1.src st cl e).1, (E1.src st cl e).2⟩, E1.zz, r1, p1, fun b v H2 pb k2 d2 r2 => RD.gname (pb W _ H2 D ((E1.step k2 d2).set r2) q1 q2 q3 q4), fun C f hm b v H2 pb k2 d2 r2 => ?_⟩))
  obtain ⟨hx, hf⟩ := hc C f hm
  cases f with
  | none => exact absurd rfl hf
  | some f =>
    intro d hd hxd
    refine ⟨true, hx, fun _ a ha => ?_, fun z => nomatch z⟩
    have E2 := E1.step k2 d2
    refine pb a d f hm W (σ.set i (some (.ref a))) H2 _ (E2.set (rp_xc.mpr ⟨rfl, (E1.fresh hd).2.1, v, hxd, r2⟩)) (fun Γ' σ' H' ⟨x, hx, n⟩ E' => q1 _ _ _ n (E'.unset hx)) q2 (fun Γ' σ' H' ⟨x, hx, n⟩ E' => q3 _ _ _ n (E'.unset hx)) (fun Γ' σ' H' ⟨x, hx, n⟩ E' => q4 _ _ _ n (E'.unset hx))
/-- err.f -/
theorem xf {a d C : Addr} {f : Str} (h : bwE G K te Γ fun x => ∃ b, x = .xc a d f b ∧ Post b) : bwE G K (tXf a (.ref C) (some d) C f te) Γ Post := fun W σ H Q E k =>
  h W σ H _ E fun x v H1 p k1 E1 r1 => by
    obtain ⟨b, rfl, p⟩ := p
    obtain ⟨rfl, _, u, h1, h2⟩ := rp_xc.mp r1
    exact ⟨rfl, rfl, d, _, u, rfl, h1, by simp [List.lookup], k b u H1 p k1 E1 h2⟩
/-- isinstance(err, c) -/
theorem isF {a d C : Addr} {f : Str} {b x : B} {c : V} {cv : Value} {k : Bool} (hx : x = .xc a d f b) (hcv : ∀ u, RelV c u → u = cv) (he : PySem.W.kitOne K (.ref C) cv = some k) (q : Post (.bl k)) : bwRA G K (G8.rIsF K C a (.ref C) (some d)) [x, .raw c] Post := fun W Γ σ H vs Q E r kk => by
  subst hx
  obtain ⟨v, r, rfl, a1, a2⟩ := rps_cons.mp r
  obtain ⟨v2, r2, rfl, b1, b2⟩ := rps_cons.mp a2
  obtain rfl := rps_nil.mp b2
  obtain ⟨rfl, _, u, h1, h2⟩ := rp_xc.mp a1
  rw [rp_raw.mp b1]
  exact ⟨c, cv, k, d, _, rfl, rfl, rfl, h1, hcv, he, kk _ _ H q Kp.refl E (rp_bl.mpr rfl)⟩
/-! ### raise -/
/-- the __init__ of an own class of errors: self.f = a copy of what is handed in -/
def SpI (G : DK) (K : PySem.W.Frag) (C : Addr) (f : Str) (Ok : B → Prop) : Sp := fun vs H Q _ => ∃ (Z : AS) (o : Sr) (a : Addr) (b : B) (v : V), (G.U → ∀ p, ¬ o.L p) ∧ (∀ st cl, o.s = some (st, cl) → G.D H st cl ∧ Z st ∧ ¬ Z cl) ∧ (∀ p, Z p → H p ≠ none) ∧ vs = [.ref a, v] ∧ H a = some (exo a C none) ∧ ¬ Z a ∧ Rp K Z o H b v ∧ Ok b ∧
  ∀ (v' : V) (H' : Hp) (dx : Addr), (∀ c u, c ≠ a → ¬ isS o c → H c = some u → H' c = some u) → (∀ st cl, o.s = some (st, cl) → G.D H' st cl) → H dx = none → H' a = some (exo a C (some dx)) → H' dx = some (exd dx [(f, v')]) → Rp K Z o H' b v' → Q .non H'
theorem raiseO {C : Addr} {f : Str} {Ok : B → Prop} (hm : (C, some f) ∈ xs) (h : bwA (G.wx K xs XP E) K t Γ fun bs => ∃ b, bs = [b] ∧ Ok b ∧ XP C b) : bwS (G.wx K xs XP E) K (fun _ σ H => tMkO C (SpI G K C f Ok) [] t σ H fun cls d H' => E cls d H') Γ e := fun W σ H D Ev q1 q2 q3 q4 => by
  refine h W σ H _ Ev fun bs vs H1 p1 k1 E1 r1 => ?_
  obtain ⟨b, rfl, ok, xb⟩ := p1
  obtain ⟨v, r, rfl, rv, r2⟩ := rps_cons.mp r1
  obtain rfl := rps_nil.mp r2
  refine ⟨by show 1 ≤ 1000; decide, fun a na => ?_⟩
  obtain ⟨f1, f2, f3⟩ := E1.fresh na
  have E2 := E1.nw (u := exo a C none) na
  refine ⟨ZZ W Γ σ, W.o, a, b, v, E2.lk, fun st cl e => ⟨E2.dok st cl e, .inl (E2.src st cl e).1, (E2.src st cl e).2⟩, E2.zz, rfl, upd_same, f2, rv.kp E1.zs (Kp.refl.nw na), ok, fun v' H' dx kk d' hdx ha hd r' => ⟨rfl, dx, _, ha, hd, ?_, ?_⟩⟩
  · have : dx ≠ a := fun z => by rw [z, upd_same] at hdx; cases hdx
    rw [upd_ne this] at hdx
    exact hdx
  have hne : dx ≠ a := fun z => by rw [z, upd_same] at hdx; cases hdx
  have hdx1 : H1 dx = none := by rw [upd_ne hne] at hdx; exact hdx
  have k2 : Kp W.o H1 (upd (del H' a) dx (.xd [(f, v')])) := fun c u hs hc => by
    have c1 : c ≠ a := ne_of_none hc na
    rw [upd_ne (ne_of_none hc hdx1), del_ne c1]
    exact kk c u c1 hs (by rw [upd_ne c1]; exact hc)
  have dat : ∀ c u, ¬ ZZ W Γ σ c → datO u = true → H' c = some u → upd (del H' a) dx (.xd [(f, v')]) c = some u := fun c u _ hu hc => by
    have c1 : c ≠ a := fun z => by rw [z, ha] at hc; cases hc; cases hu
    have c2 : c ≠ dx := fun z => by rw [z, hd] at hc; cases hc; cases hu
    rw [upd_ne c2, del_ne c1]
    exact hc
  have d3 : DOk G W (upd (del H' a) dx (.xd [(f, v')])) := fun st cl e => by
    have hst := E1.dok st cl e
    have hs1 := G.st hst
    obtain ⟨ys, hc1⟩ := G.cl hst
    have n1 : st ≠ a := fun z => hs1 (by rw [z]; exact na)
    have n2 : cl ≠ a := fun z => by rw [z, na] at hc1; cases hc1
    have n3 : st ≠ dx := fun z => hs1 (by rw [z]; exact hdx1)
    have n4 : cl ≠ dx := fun z => by rw [z, hdx1] at hc1; cases hc1
    exact G.off (d' st cl e) (by rw [upd_ne n3, del_ne n1]) (by rw [upd_ne n4, del_ne n2])
  have fin := E1.wok C (some f) hm b v' _ xb (E1.kx.trans (E1.kp.trans k2)) d3 ((r'.offD dat).less fun p z => .inl (E1.zx p z).1)
  refine fin dx ?_ upd_same
  cases q : W.HX dx with
  | none => rfl
  | some u =>
    obtain ⟨g1, g2, g3⟩ := E1.fresh hdx1
    rw [E1.kx dx u g3 q] at g1
    cases g1
end
end BV

set_option Elab.async false
set_option linter.all false
set_option maxRecDepth 100000
set_option maxHeartbeats 4000000
/-! a head's Hook by names, for laws read by value -/
namespace G9
open PySem PySem.Spec PyProof.Rows L2 He
/-! ### defs -/
structure FnQ where
  addr : PySem.W.Frag → Addr
  name : Str
  qual : Str
  params : Arguments
  body : List Stmt
  scope : Scope
  clo : List Str
abbrev FnS : Type := Option (Str × Str × Arguments × FuncBody × Scope × Addr × List Str × Addr)
def fnQ (K : PySem.W.Frag) (a : Addr) : FnS := match K.lookup a with
  | some ⟨_, _, .func fd, _⟩ => some (fd.name, fd.qualname, fd.params, fd.body, fd.scope, fd.globals, fd.closure.map (·.1), fd.builtins)
  | _ => none
def FnQ.val (d : FnQ) : FnS := some (d.name, d.qual, d.params, .stmts d.body, d.scope, mainGlobals, d.clo, builtinsNs)
def noneV : Value → Bool
  | .none => true
  | _ => false
def FnQ.ok (K : PySem.W.Frag) (d : FnQ) : Bool := PySem.W.keepIn K (.ref (d.addr K)) && (match K.lookup (d.addr K) with
  | some ⟨_, _, .func fd, _⟩ => PySem.W.codeIn K fd.code d.qual && noneV fd.defaults
  | _ => false)
theorem FnQ.get {K : PySem.W.Frag} {d : FnQ} (e : fnQ K (d.addr K) = d.val) (c : d.ok K = true) : PySem.W.keepIn K (.ref (d.addr K)) = true ∧ ∃ (oc : Value) (od : Option Addr) (kV doc pm : Value) (an : Option Addr) (cdv ct : Value) (osl : Array (Option Value)) (cl : List (Str × Addr)),
    cl.map (·.1) = d.clo ∧ K.lookup (d.addr K) = some ⟨oc, od, .func (PySem.W.fnX d.name d.qual d.params d.body d.scope cl .none kV doc pm an cdv ct), osl⟩ ∧ PySem.W.codeIn K cdv d.qual = true := by
  obtain ⟨kp, c2⟩ := ba c
  refine ⟨kp, ?_⟩
  unfold fnQ at e
  cases q : K.lookup (d.addr K) with
  | none =>
    rw [q] at c2
    cases c2
  | some o =>
    obtain ⟨oc, od, dt, osl⟩ := o
    rw [q] at c2 e
    cases dt with
    | func fd =>
      obtain ⟨n1, n2, n3, n4, n5, n6, n7, n8, n9, n10, n11, n12, n13, n14, n15⟩ := fd
      have e2 : (some (n1, n2, n3, n4, n5, n6, n7.map (·.1), n15) : FnS) = some (d.name, d.qual, d.params, .stmts d.body, d.scope, mainGlobals, d.clo, builtinsNs) := e
      simp only [Option.some.injEq, Prod.mk.injEq] at e2
      obtain ⟨h1, h2, h3, h4, h5, h6, h7, h8⟩ := e2
      have c3 : (PySem.W.codeIn K n13 d.qual && noneV n8) = true := c2
      obtain ⟨k1, k2⟩ := ba c3
      cases n8 with
      | none =>
        subst h1 h2 h3 h4 h5 h6 h8
        exact ⟨oc, od, n9, n10, n11, n12, n13, n14, osl, n7, h7, rfl, k1⟩
      | _ => cases k2
    | _ => cases c2
/-- a def without a closure -/
theorem FnQ.fun0 {K : PySem.W.Frag} {d : FnQ} {st : Stmt} (e : fnQ K (d.addr K) = d.val) (c : d.ok K = true) (hc : d.clo = []) (h1 : d.params = defArgs st) (h2 : d.body = defBody st) (h3 : d.scope = defScope st) : ∃ fd, L2.Fun K d.name d.qual st (d.addr K) fd := by
  obtain ⟨kp, oc, od, kV, doc, pm, an, cdv, ct, osl, cl, e1, e2, e3⟩ := FnQ.get e c
  rw [hc] at e1
  have e4 : cl = [] := List.map_eq_nil_iff.mp e1
  subst e4
  rw [h1, h2, h3] at e2
  exact ⟨_, ⟨oc, od, kV, doc, pm, an, cdv, ct, osl, rfl, e2, e3⟩, kp⟩
/-! ### written tuples, tables of forms -/
def tupA (K : PySem.W.Frag) (t : Addr) (vs : List V) : Bool := match K.lookup t with
  | some ⟨.type c, _, .seq its _, _⟩ => decide (c = "tuple") && (decide (its.size ≤ sizeLine) && relAll vs its.toList)
  | _ => false
theorem tupA_ok {K : PySem.W.Frag} {t : Addr} {vs : List V} (h : tupA K t vs = true) (H : Hp) : SqT K H t vs := by
  unfold tupA at h
  cases q : K.lookup t with
  | none =>
    rw [q] at h
    cases h
  | some o =>
    obtain ⟨oc, od, dt, osl⟩ := o
    rw [q] at h
    cases oc with
    | type c =>
      cases dt with
      | seq its n =>
        obtain ⟨h1, h2⟩ := ba (show (decide (c = "tuple") && (decide (its.size ≤ sizeLine) && relAll vs its.toList)) = true from h)
        obtain ⟨h3, h4⟩ := ba h2
        exact .inr ⟨_, its, n, q, congrArg Value.type (of_decide_eq_true h1), rfl, of_decide_eq_true h3, relAll_ok h4⟩
      | _ => cases h
    | _ => cases dt <;> cases h
def tabB (K : PySem.W.Frag) (p : Addr) (tab : BV.TabS) : Bool := tab.all fun q => match PySem.W.nsIn K p q.1 with
  | some (some (.ref t)) => tupA K t (q.2.map V.str)
  | _ => false
theorem look_mem {z : Str} {fs : List Str} : ∀ {tab : BV.TabS}, tab.lookup z = some fs → (z, fs) ∈ tab
  | [], h => by cases h
  | (a, b) :: r, h => by
    rw [List.lookup_cons] at h
    split at h
    · rename_i e
      rw [← Option.some.inj h, eq_of_beq e]
      exact List.mem_cons_self
    · exact List.mem_cons_of_mem _ (look_mem h)
theorem look_not {z : Str} : ∀ {tab : BV.TabS}, tab.lookup z = none → z ∉ tab.map (·.1)
  | [], _ => by simp
  | (a, b) :: r, h => by
    rw [List.lookup_cons] at h
    split at h
    · cases h
    · rename_i e
      intro hm
      rcases List.mem_cons.mp hm with h1 | h1
      · rw [h1] at e
        simp at e
      · exact look_not h h1
theorem str_key {k z : Str} {t : Tok} (h : k ≠ z) : (Value.str k t).isStr z = false := by
  show (k == z) = false
  exact beq_eq_false_iff_ne.mpr h
theorem find_no {P : Params} {z : Str} : ∀ {es : List DictEntry} {ks : List Str}, es.map He.keyOf = keysIn P ks → z ∉ ks → es.find? (·.key.isStr z) = none ∧ es.any (·.refKey) = false
  | [], [], _, _ => ⟨rfl, rfl⟩
  | [], _ :: _, h, _ => by simp [keysIn] at h
  | _ :: _, [], h, _ => by simp [keysIn] at h
  | e :: es, k :: ks, h, hz => by
    have h1 : He.keyOf e :: es.map He.keyOf = some (k, PyData.keyHash P k) :: keysIn P ks := h
    injection h1 with h2 h3
    rw [List.mem_cons, not_or] at hz
    obtain ⟨i1, i2⟩ := find_no h3 hz.2
    unfold He.keyOf at h2
    obtain ⟨eh, ek, ev⟩ := e
    cases ek with
    | str x t =>
      have e4 : x = k := (Prod.mk.inj (Option.some.inj h2)).1
      subst e4
      refine ⟨?_, ?_⟩
      · rw [List.find?_cons_of_neg (by rw [str_key (Ne.symm hz.1)]; exact Bool.false_ne_true)]
        exact i1
      · rw [List.any_cons, i2]
        rfl
    | _ => cases h2
/-- a table of forms, by its keys and its values -/
theorem tab_ok {K : PySem.W.Frag} {w : World} {mg : Str → Option Value} {x : Str} {tab : BV.TabS} {p : Addr} (hm : mg x = some (.ref p)) (hd : dicW K p = some (keysIn w.params (tab.map (·.1)))) (hv : tabB K p tab = true) : BV.FTS K w mg x tab := by
  obtain ⟨es, n, D⟩ := dicW_ok hd
  refine ⟨p, hm, ⟨es, n, D⟩, fun z => ?_⟩
  have hk : es.toList.map He.keyOf = keysIn w.params (tab.map (·.1)) := by
    unfold dicW at hd
    rw [D.at_] at hd
    have h1 : (match decide ("dict" = "dict") && ((#[] : Array (Option Value)).isEmpty && !(p == sysModules)) with
      | true => some (es.toList.map He.keyOf)
      | false => none) = some (keysIn w.params (tab.map (·.1))) := hd
    rw [D.low] at h1
    exact Option.some.inj h1
  cases e : tab.lookup z with
  | none =>
    show PySem.W.nsIn K p z = some none
    unfold PySem.W.nsIn
    rw [D.at_]
    obtain ⟨i1, i2⟩ := find_no hk (look_not e)
    dsimp only
    rw [i1, i2]
    rfl
  | some fs =>
    have h1 := List.all_eq_true.mp hv (z, fs) (look_mem e)
    have h2 : (match PySem.W.nsIn K p z with
      | some (some (.ref t)) => tupA K t (fs.map V.str)
      | _ => false) = true := h1
    cases e2 : PySem.W.nsIn K p z with
    | none => rw [e2] at h2; cases h2
    | some o =>
      rw [e2] at h2
      cases o with
      | none => cases h2
      | some v =>
        cases v with
        | ref t => exact ⟨t, rfl, fun H => tupA_ok h2 H⟩
        | _ => cases h2
/-! ### an own exception class over another one -/
def excB (K : PySem.W.Frag) (C : Addr) : Bool := match K.lookup C with
  | some ⟨.type "type", _, .cls cd, sl⟩ => (match cd.mro, sl.toList with
    | .ref C' :: bm, [_, _, _, _, some (.builtin n), _] => decide (C' = C) && (decide (n = "ValueError.__new__") && (!cd.hasDel && (cd.hasDict && PySem.HandSPX.refsVE bm)))
    | _, _ => false)
  | _ => false
theorem excB_ok {K : PySem.W.Frag} {C : Addr} (q : excB K C = true) : ∃ nm qn N bs bm sn sub ab col dd k0 k1 k2 k3 k5, K.lookup C = some (excClassObj nm qn C N bs bm true sn sub ab col dd k0 k1 k2 k3 k5 "ValueError.__new__") ∧ PySem.HandSPX.refsVE bm = true := by
  unfold excB at q
  split at q
  · rename_i dd cd sl ho
    split at q
    · rename_i C' bm k0 k1 k2 k3 n k5 hm hs
      simp only [Bool.and_eq_true, decide_eq_true_eq, Bool.not_eq_true'] at q
      obtain ⟨rfl, rfl, hdel, hdict, hb⟩ := q
      obtain ⟨nm, bs, mro, ns, qn, hd, sn, sub, ab, col, del⟩ := cd
      dsimp only at hm hdel hdict
      subst hm hdel hdict
      have hsl : sl = #[k0, k1, k2, k3, some (.builtin "ValueError.__new__"), k5] := by
        obtain ⟨l⟩ := sl
        simp only at hs
        rw [hs]
      subst hsl
      exact ⟨nm, qn, ns, bs, bm, sn, sub, ab, col, dd, k0, k1, k2, k3, k5, ho, hb⟩
    · cases q
  · cases q
/-! ### an own class of errors with a field -/
def oB (a b : Option Bool) : Bool := decide (a = b)
def oV (a b : Option Value) : Bool := decide (a = b)
def supB (file : Str) (K : PySem.W.Frag) (C f : Addr) : Bool := match K.lookup f with
  | some ⟨_, _, .func fd, _⟩ => (match fd.code, fd.closure with
    | .ref c, [(_, cc)] => (match K.lookup c, K.lookup cc with
      | some ⟨_, _, .fields vs, _⟩, some ⟨_, _, .cell (some (.ref C')), _⟩ => decide (C' = C) && (match (vs[2]? : Option Value) with
        | some (.str fl _) => file == fl
        | _ => false)
      | _, _ => false)
    | _, _ => false)
  | _ => false
def err1 (K : PySem.W.Frag) (C i : Addr) (f : Str) : Bool := excB K C && (eqO (PySem.W.findIn K (.ref C) "__setattr__") (some (some (.builtin "object.__setattr__"))) && (oB (PySem.W.subIn K (.ref C) (.type "BaseException")) (some true) && (oV (PySem.W.typeIn K (.ref C)) (some (.type "type")) && (PySem.W.keepIn K (.ref C) &&
  (eqO (PySem.W.findIn K (.ref C) "__init__") (some (some (.ref i))) && (oV (PySem.W.typeIn K (.ref i)) (some (.type "function")) && (eqO (PySem.W.findIn K (.ref C) f) (some none) && xfB K C)))))))
def err2 (file : Str) (K : PySem.W.Frag) (C i : Addr) : Bool := supB file K C i && (oB (PySem.W.mroIn K C (.ref C)) (some true) && (eqO (PySem.W.nsIn K cStatics "thirdparty.any") (some none) && (eqO (PySem.W.ks_superIn K C C "__init__") (some (some (.builtin "ValueError.__init__"))) && oB (PySem.W.subIn K (.ref C) (.type "ValueError")) (some true))))
def err3 (K : PySem.W.Frag) (C : Addr) : Bool := eqO (PySem.W.findIn K (.ref C) "__getattribute__") (some (some (.builtin "BaseException.__getattribute__"))) && (eqO (PySem.W.findIn K (.ref C) "__getattr__") (some none) && (oB (PySem.W.subIn K (.ref C) (.type "BaseException")) (some true) && (PySem.W.hasDictIn K C &&
  (eqO (PySem.W.findIn K (.ref C) "__class__") (some (some (.builtin "object.__class__"))) && (eqO (PySem.W.specialIn K (.builtin "object.__class__") "__get__") (some (some (.builtin "getset_descriptor.__get__"))) && (oB (PySem.W.takesIn K (.builtin "object.__class__")) (some true) && oB (PySem.W.mroIn K C (.type "object")) (some true)))))))
theorem err3_ok {K : PySem.W.Frag} {C : Addr} (h : err3 K C = true) : ExcC K C := by
  obtain ⟨h1, h⟩ := ba h
  obtain ⟨h2, h⟩ := ba h
  obtain ⟨h3, h⟩ := ba h
  obtain ⟨h4, h⟩ := ba h
  obtain ⟨h5, h⟩ := ba h
  obtain ⟨h6, h⟩ := ba h
  obtain ⟨h7, h8⟩ := ba h
  exact ⟨eqO_ok h1, eqO_ok h2, of_decide_eq_true h3, h4, eqO_ok h5, eqO_ok h6, of_decide_eq_true h7, of_decide_eq_true h8⟩
structure Err1 (K : PySem.W.Frag) (C i : Addr) (f : Str) : Prop where
  oex : OexC K C
  ini : PySem.W.findIn K (.ref C) "__init__" = some (some (.ref i))
  ty : PySem.W.typeIn K (.ref i) = some (.type "function")
  no : PySem.W.findIn K (.ref C) f = some none
  xf : XfC K C
  exc : excB K C = true
theorem err1_ok {K : PySem.W.Frag} {C i : Addr} {f : Str} (h : err1 K C i f = true) : Err1 K C i f := by
  obtain ⟨q1, h⟩ := ba h
  obtain ⟨q2, h⟩ := ba h
  obtain ⟨q3, h⟩ := ba h
  obtain ⟨q4, h⟩ := ba h
  obtain ⟨q5, h⟩ := ba h
  obtain ⟨q6, h⟩ := ba h
  obtain ⟨q7, h⟩ := ba h
  obtain ⟨q8, q9⟩ := ba h
  exact ⟨⟨excB_ok q1, eqO_ok q2, of_decide_eq_true q3, of_decide_eq_true q4, q5⟩, eqO_ok q6, of_decide_eq_true q7, eqO_ok q8, xfB_ok q9, q1⟩
theorem code_ref {K : PySem.W.Frag} {cd : Value} {q : Str} (e : PySem.W.codeIn K cd q = true) : ∃ c, cd = .ref c := by
  unfold PySem.W.codeIn at e
  split at e
  · exact ⟨_, rfl⟩
  · cases e
/-- its __init__, by what the written part holds -/
theorem sup_ok {PR : Program} {K : PySem.W.Frag} {C : Addr} {d : FnQ} {f : Str} {st : Stmt} {q : Str} (e1 : err1 K C (d.addr K) f = true) (e2 : err2 PR.main.file K C (d.addr K) = true) (e : fnQ K (d.addr K) = d.val) (c : d.ok K = true)
    (hn : d.name = "__init__") (hq : d.qual = q) (hp : d.params = defArgs st) (hb : d.body = defBody st) (hs : d.scope = defScope st) (hc : d.clo = (["__class__"] : List Str)) (hsu : (List.lookup ("super" : Str) PR.main.scope.names).isSome = false) :
    ∃ (cc cda : Addr) (kV doc pm ct : Value) (an : Option Addr), G1.SupC K PR C (d.addr K) cc cda (PySem.W.ksFn "__init__" q (defArgs st) (defBody st) (defScope st) .none kV doc pm an (.ref cda) ct cc) ∧ PySem.W.codeIn K (.ref cda) q = true := by
  obtain ⟨kp, oc, od, kV, doc, pm, an, cdv, ct, osl, cl, ecl, lk, hcd⟩ := FnQ.get e c
  rw [hn, hq, hp, hb, hs] at lk
  rw [hc] at ecl
  rw [hq] at hcd
  obtain ⟨cc, rfl⟩ : ∃ cc : Addr, cl = [(Str.ofString "__class__", cc)] := by
    match cl, ecl with
    | [(n, a)], e =>
      have : n = "__class__" := (List.cons.inj e).1
      exact ⟨a, by rw [this]⟩
  obtain ⟨cda, rfl⟩ : ∃ a, cdv = .ref a := code_ref hcd
  obtain ⟨s1, h⟩ := ba e2
  obtain ⟨s2, h⟩ := ba h
  obtain ⟨s3, h⟩ := ba h
  obtain ⟨s4, s5⟩ := ba h
  have q1 := (err1_ok e1).exc
  refine ⟨cc, cda, kV, doc, pm, ct, an, ?_, hcd⟩
  unfold supB at s1
  rw [lk] at s1
  dsimp only at s1
  split at s1
  · rename_i c1 d1 vs sl1 a1 b1 C1 e1' lc lcc
    obtain ⟨z1, z2⟩ := ba s1
    have eC := of_decide_eq_true z1
    subst eC
    split at z2
    · rename_i file tf ev
      exact ⟨excB_ok q1, ⟨_, _, _, lk⟩, ⟨_, _, vs, _, file, tf, lc, ev, z2⟩, ⟨_, _, _, lcc⟩, of_decide_eq_true s2, eqO_ok s3, eqO_ok s4, of_decide_eq_true s5, hsu⟩
    · cases z2
  · cases s1
end G9

set_option Elab.async false
set_option linter.all false
set_option maxRecDepth 100000
set_option maxHeartbeats 4000000
/-! the draws: _law_mix, _law_source, _law_draw -/
namespace SF
open PySem PySem.Spec PyProof.Rows L2 G0
def topS (i : Nat) : Stmt := PySem.Challenge.pw_standsfor_k85_texts_of_events.main.body.getD i (.Pass ⟨0, 0, 0, 0⟩)
abbrev Int1 (mg : Str → Option Value) (x : Str) (i : Int) : Prop := ∃ u, mg x = some u ∧ RelV (.int i) u
theorem sl5 {x y z u v : V} : [x, y, z, u, v].length ≤ sizeLine := by show 5 ≤ sizeLine; decide
theorem at0 {x : V} {r : List V} : atI (x :: r) 0 = some x := atI_nat (xs := x :: r) (j := 0) rfl
theorem at1 {x y : V} {r : List V} : atI (x :: y :: r) 1 = some y := atI_nat (xs := x :: y :: r) (j := 1) rfl
theorem at2 {x y z : V} {r : List V} : atI (x :: y :: z :: r) 2 = some z := atI_nat (xs := x :: y :: z :: r) (j := 2) rfl
theorem at3 {x y z u : V} {r : List V} : atI (x :: y :: z :: u :: r) 3 = some u := atI_nat (xs := x :: y :: z :: u :: r) (j := 3) rfl
theorem at4 {x y z u v : V} {r : List V} : atI (x :: y :: z :: u :: v :: r) 4 = some v := atI_nat (xs := x :: y :: z :: u :: v :: r) (j := 4) rfl
def Btw (st : Addr) (H H' : Hp) : Prop := ∀ b u, b ≠ st → H b = some u → H' b = some u
end SF
namespace RD
open PySem PySem.Spec PyProof.Rows L2 G0
/-- an if whose two ways meet: what follows is said once -/
theorem ifJ {c : TT} {t1 t2 : TS} {σ : L2.St} {H : Hp} {nx : L2.St → Hp → Prop} {rt : VK} {bk ct : L2.St → Hp → Prop} (Pd : L2.St → Hp → Prop) (hrest : ∀ σ' H', Pd σ' H' → nx σ' H') (h : ∀ nx' : L2.St → Hp → Prop, (∀ σ' H', Pd σ' H' → nx' σ' H') → tIfS c t1 t2 ⟨nx', rt, bk, ct⟩ σ H) : tIfS c t1 t2 ⟨nx, rt, bk, ct⟩ σ H := h nx hrest
end RD
namespace SF
open PySem PySem.Spec PyProof.Rows L2 G0 BV
open C8 (Cal Mak Met pe_c pe_mk pe_mt pe_mt0 pe_gc)
/-- the built-ins that the law calls -/
structure TxtD (K : PySem.W.Frag) (mg : Str → Option Value) : Prop where
  b_len : mg "len" = none
  b_list : mg "list" = none
  b_int : mg "int" = none
  b_range : mg "range" = none
/-- the state of the draws: the numbers, the next one's place, what is left of one, how many draws, the seed -/
def D3 (H : Hp) (st cl : Addr) : Prop := ∃ (ns : List Int) (at_ : Nat) (held cnt seed : Int), H st = some (.lst [.ref cl, .int at_, .int held, .int cnt, .int seed]) ∧ H cl = some (.lst (ns.map V.int)) ∧ cl ≠ st ∧ 0 ≤ held
def G3 : DK where
  D := D3
  off := fun ⟨ns, a, h, c, s, h1, h2, h3⟩ e1 e2 => ⟨ns, a, h, c, s, e1.trans h1, e2.trans h2, h3⟩
  st := fun ⟨_, _, _, _, _, h1, _⟩ z => by rw [h1] at z; cases z
  cl := fun ⟨_, _, _, _, _, _, h2, _⟩ => ⟨_, h2⟩
  ne := fun ⟨_, _, _, _, _, _, _, h3, _⟩ => h3
  U := True
def spMix : Sp := fun vs H Q _ => ∃ n k : Int, vs = [.int n, .int k] ∧ ∀ r : Int, 0 ≤ r → Q (.int r) H
/-- any number below many may be drawn -/
def WDraw (bs : List B) (R : B → Prop) : Prop := ∃ n : Nat, bs = [.src, .int n] ∧ 0 < n ∧ n ≤ 1000000 ∧ ∀ k : Nat, k < n → R (.int k)
def spSource (K : PySem.W.Frag) : Sp := fun vs H Q _ => ∃ (a : Addr) (ns : List Int), vs = [.ref a] ∧ SqL K H a (ns.map V.int) ∧ ∀ (H' : Hp) (st cl : Addr), Same H H' → H st = none → D3 H' st cl → Q (.ref st) H'
section
variable {P : Program} {w : World} {K : PySem.W.Frag} {mg : Str → Option Value} {base : Heap}
local macro_rules | `(tactic| walk_at "rd1") => `(tactic| first
  | (with_reducible refine RD.seq ?_) | (with_reducible refine RD.next ?_) | (with_reducible refine RD.ifS ?_) | (with_reducible refine RD.ret ?_) | (with_reducible refine RD.retN ?_) | (with_reducible refine RD.drop ?_) | (with_reducible refine RD.asg ?_) | (with_reducible refine RD.gname ?_)
  | ((with_reducible apply RD.var); exact rfl) | (with_reducible refine RD.c_ ?_) | (with_reducible refine RD.op ?_) | (with_reducible refine RD.un ?_) | (with_reducible refine RD.cb ?_) | (with_reducible refine RD.cons ?_) | (with_reducible refine RD.nil ?_) | (with_reducible refine RD.tup ?_) | (with_reducible refine RD.lst ?_)
  | (with_reducible refine RD.B_ ?_) | (with_reducible refine RD.test ?_) | (with_reducible refine RD.exB ?_) | (with_reducible refine RD.exI ?_) | (with_reducible refine RD.and_ ?_) | (with_reducible refine RD.or_ ?_) | (with_reducible refine RD.not_ ?_) | (with_reducible refine RD.andV ?_) | (with_reducible refine RD.orV ?_) | (with_reducible refine RD.notV ?_) | (with_reducible refine RD.if_ ?_)
  | (with_reducible refine RD.ifT ?_) | (with_reducible refine RD.ifF ?_) | (with_reducible refine RD.ifNT ?_) | (with_reducible refine RD.ifNF ?_) | (with_reducible refine RD.yes ?_) | (with_reducible refine RD.sl ?_) | (with_reducible refine RD.noPart ?_) | (with_reducible refine RD.part ?_) | (with_reducible refine RD.i0 ?_) | (with_reducible refine RD.eqS ?_) | (with_reducible refine RD.eqI ?_) | (with_reducible refine RD.neS ?_) | (with_reducible refine RD.neI ?_)
  | (with_reducible refine RD.isN_n ?_) | (with_reducible refine RD.isN_r ?_) | (with_reducible refine RD.isN_s ?_) | (with_reducible refine RD.isN_b ?_) | (with_reducible refine RD.isN_i ?_) | (with_reducible refine RD.notN_n ?_) | (with_reducible refine RD.notN_r ?_) | (with_reducible refine RD.notN_s ?_)
  | (with_reducible refine RD.call ?_) | (with_reducible refine RD.make ?_) | (with_reducible refine RD.gcons ?_) | (with_reducible refine RD.gnil ?_) | (with_reducible refine RD.bm ?_) | (with_reducible refine RD.bm0 ?_) | (with_reducible refine RD.dget ?_) | (with_reducible refine RD.din ?_) | (with_reducible refine RD.tfld ?_) | (with_reducible refine RD.then_ ?_) | (with_reducible refine RD.chain ?_) | (with_reducible refine RD.itup ?_) | (with_reducible refine RD.ikeys ?_) | (with_reducible refine RD.ivals ?_) | (with_reducible refine RD.iitems ?_) | (with_reducible refine RD.lset ?_) | (with_reducible refine RD.ilist ?_) | ((with_reducible apply RD.aug); exact rfl))
local macro_rules | `(tactic| walk_at "rd") => `(tactic| repeat walk_at "rd1")

theorem sc__law_mix : FnScope ["_law_number_here", "_law_k"] ["_law_number_here", "_law_k"] (defScope (topS 25)) := ⟨rfl, rfl, rfl, by decide +kernel, rfl, by decide +kernel, by decide +kernel⟩
theorem ok_mix (T : TxtD K mg) {f : Addr} {fd : FuncData} (F : Fun K "_law_mix" "_law_mix" (topS 25) f fd) : FnOk P w K mg base CX0 1 f fd ["_law_number_here", "_law_k"] spMix := by
  refine F.ok sc__law_mix (fun vs H Q E h => ?_) (fun cdv A outer s H vs Q E hr h => ?_)
  · obtain ⟨n, c, rfl, _⟩ := h
    rfl
  obtain ⟨n, c, rfl, q⟩ := h
  refine ⟨_, (pss_cons (ps_set (i := 0) sc__law_mix.nd rfl (Or.inl rfl) (pe_op op_mod (pe_op op_mul (pe_op op_add (pe_op op_add (pv 0) (pe_op op_mul pe_int (pv 1))) pe_int) pe_int) pe_int))
      (pss_cons (ps_set (i := 0) sc__law_mix.nd rfl (Or.inl rfl) (pe_op op_mod (pe_op op_mul (pv 0) (pe_op op_add (pe_op op_fdivW (pv 0) pe_int) pe_int)) pe_int))
      (pss_one (ps_ret (pe_op op_mod (pe_op op_mul (pv 0) (pe_op op_add (pe_op op_fdivW (pv 0) pe_int) pe_int)) pe_int))))), ?_⟩
  walk_at "rd"
  refine RD.i1 (.inl ⟨by decide, by decide⟩) ?_
  walk_at "rd"
  refine RD.i1 (.inr ⟨by decide, by decide⟩) ?_
  walk_at "rd"
  refine RD.i1 (by decide) ?_
  have a0 : 0 ≤ (n + 7919 * c + 1) * 48271 % 2147483647 := Int.emod_nonneg _ (by decide)
  have a1 : (n + 7919 * c + 1) * 48271 % 2147483647 < 2147483647 := Int.emod_lt_of_pos _ (by decide)
  generalize (n + 7919 * c + 1) * 48271 % 2147483647 = a at a0 a1
  walk_at "rd"
  refine RD.i1 ⟨by decide, by decide +kernel⟩ ?_
  walk_at "rd"
  refine RD.i1 (.inl ⟨by omega, by omega⟩) ?_
  walk_at "rd"
  refine RD.i1 (by decide) ?_
  have b0 : 0 ≤ a * (a / 1009 + 69621) % 2147483647 := Int.emod_nonneg _ (by decide)
  have b1 : a * (a / 1009 + 69621) % 2147483647 < 2147483647 := Int.emod_lt_of_pos _ (by decide)
  generalize a * (a / 1009 + 69621) % 2147483647 = b at b0 b1
  walk_at "rd"
  refine RD.i1 ⟨by decide, by decide +kernel⟩ ?_
  walk_at "rd"
  refine RD.i1 (.inl ⟨by omega, by omega⟩) ?_
  walk_at "rd"
  refine RD.i1 (by decide) ?_
  exact q _ (Int.emod_nonneg _ (by decide))
theorem sc__law_source : FnScope ["_law_script"] ["_law_script"] (defScope (topS 26)) := ⟨rfl, rfl, rfl, by decide +kernel, rfl, by decide +kernel, by decide +kernel⟩
theorem ok_source (T : TxtD K mg) {f : Addr} {fd : FuncData} (F : Fun K "_law_source" "_law_source" (topS 26) f fd) : FnOk P w K mg base CX0 1 f fd ["_law_script"] (spSource K) := by
  refine F.ok sc__law_source (fun vs H Q E h => ?_) (fun cdv A outer s H vs Q E hr h => ?_)
  · obtain ⟨a, ns, rfl, _⟩ := h
    rfl
  obtain ⟨a, ns, rfl, hS, q⟩ := h
  refine ⟨_, (pss_one (ps_ret (pe_lst (pa_cons (pe_callTy call_list_of (by rfl) T.b_list (by decide +kernel) (pa_cons (pe_slice sl_list (pv 0) po_none (po_some pe_int)) pa_nil)) (pa_cons pe_int (pa_cons pe_int (pa_cons pe_int (pa_cons pe_int pa_nil)))))))), ?_⟩
  walk_at "rd"
  refine ⟨a, _, rfl, hS, fun p1 n1 => ?_⟩
  walk_at "rd"
  refine ⟨p1, _, rfl, .inl (.inl (.inl upd_same)), fun cl n2 => ?_⟩
  walk_at "rd"
  refine ⟨sl5, fun st n3 => ?_⟩
  have s1 := (Same.refl H).nw (o := .lst (cutV (ns.map V.int) none (some 63))) n1
  have s2 := s1.nw (o := .lst (cutV (ns.map V.int) none (some 63))) n2
  have ne : cl ≠ st := fun e => by rw [e, upd_same] at n3; cases n3
  have hn : H st = none := by
    cases e : H st with
    | none => rfl
    | some u => rw [s2 _ _ e] at n3; cases n3
  have ec : ∃ ms : List Int, cutV (ns.map V.int) none (some 63) = ms.map V.int := ⟨cutB ns none (some 63), by
    unfold cutV cutB
    rw [List.length_map, ← List.map_drop, ← List.map_take]⟩
  obtain ⟨ms, ec⟩ := ec
  refine q _ st cl (s2.nw n3) hn ⟨ms, 0, 0, 0, 0, upd_same, ?_, ne, by decide⟩
  rw [upd_ne ne, upd_same, ec]
theorem sc__law_draw : FnScope ["_law_source_here", "_law_many", "_law_cell", "_law_digit"] ["_law_source_here", "_law_many"] (defScope (topS 27)) := ⟨rfl, rfl, rfl, by decide +kernel, rfl, by decide +kernel, by decide +kernel⟩
theorem ok_draw (T : TxtD K mg) (c__law_mix : Cal P w K mg base 1 "_law_mix" spMix []) {f : Addr} {fd : FuncData} (F : Fun K "_law_draw" "_law_draw" (topS 27) f fd) : FnOk P w K mg base CX0 2 f fd ["_law_source_here", "_law_many"] (SpB G3.lo K WDraw) := by
  refine F.ok sc__law_draw (fun vs H Q E h => spLen (fun bs R hW => by obtain ⟨n, rfl, _⟩ := hW; rfl) h) (fun cdv A outer s H vs Q E hr h => ?_)
  obtain ⟨Z, o, bs, R, _, hDk, hz, hR, ⟨many, rfl, hm0, hm1, hq⟩, q⟩ := h
  obtain ⟨v1, r1, rfl, a1, a2⟩ := rps_cons.mp hR
  obtain ⟨v2, r2, rfl, b1, b2⟩ := rps_cons.mp a2
  obtain rfl := rps_nil.mp b2
  obtain ⟨st, ⟨cl, ho⟩, rfl⟩ := rp_src.mp a1
  obtain rfl := rp_int.mp b1
  obtain ⟨hD, hZs, hZc⟩ := hDk st cl ho
  have q' : ∀ (k : Nat) (H' : Hp), k < many → Btw st H H' → D3 H' st cl → Q (.int k) H' := fun k H' hk hb hd => q (.int k) (.int k) H' (hq k hk) (fun b u hs hu => hb b u (fun e => hs ⟨cl, by rw [e]; exact ho⟩) hu) (fun s' c' e => by rw [ho] at e; cases e; exact hd) (rp_int.mpr rfl)
  clear q hq hR a1 a2 b1
  refine ⟨_, (pss_cons (ps_asg (pe_op op_add (pe_ix ix_list (pv 0) pe_int (fun _ _ => rfl)) pe_int) (pg_sub (pv 0) pe_int set_list))
      (pss_cons (ps_if ((pw_and (pt_cmpR op_le (pe_ix ix_list (pv 0) pe_int (fun _ _ => rfl)) pe_int (nomark _)) (pw_and1 (pt_cmpR op_lt (pe_ix ix_list (pv 0) pe_int (fun _ _ => rfl)) (pe_callB call_lenQ (by rfl) T.b_len PySem.boot_len (pa_cons (pe_ix ix_list (pv 0) pe_int (fun _ _ => rfl)) pa_nil)) (nomark _))))).pt (pss_cons (ps_set (i := 2) sc__law_draw.nd rfl (Or.inl rfl) (pe_ix ix_list (pe_ix ix_list (pv 0) pe_int (fun _ _ => rfl)) (pe_ix ix_list (pv 0) pe_int (fun _ _ => rfl)) (fun _ _ => rfl)))
      (pss_cons (ps_asg (pe_op op_add (pe_ix ix_list (pv 0) pe_int (fun _ _ => rfl)) pe_int) (pg_sub (pv 0) pe_int set_list))
      (pss_cons (ps_asg (pe_op op_mod (pe_callTy call_int1 (by rfl) T.b_int (by decide +kernel) (pa_cons (pe_op op_add (pe_op op_mul (pe_ix ix_list (pv 0) pe_int (fun _ _ => rfl)) pe_int) (pv 2)) pa_nil)) pe_int) (pg_sub (pv 0) pe_int set_list))
      (pss_cons (ps_asg pe_int (pg_sub (pv 0) pe_int set_list))
      (pss_one (ps_if (pt_cmpR op_ge (pv 2) (pe_op op_pow pe_int pe_int) (nomark _)) (pss_one (ps_asg (pv 2) (pg_sub (pv 0) pe_int set_list))) pss_nil)))))) pss_nil)
      (pss_cons (ps_if (pt_cmpR op_gt (pe_ix ix_list (pv 0) pe_int (fun _ _ => rfl)) pe_int (nomark _)) (pss_cons (ps_set (i := 3) sc__law_draw.nd rfl (Or.inl rfl) (pe_op op_mod (pe_callTy call_int1 (by rfl) T.b_int (by decide +kernel) (pa_cons (pe_ix ix_list (pv 0) pe_int (fun _ _ => rfl)) pa_nil)) (pv 1)))
      (pss_cons (ps_asg (pe_op op_fdivW (pe_ix ix_list (pv 0) pe_int (fun _ _ => rfl)) (pv 1)) (pg_sub (pv 0) pe_int set_list))
      (pss_one (ps_ret (pv 3))))) pss_nil)
      (pss_one (ps_ret (pe_op op_mod (pe_op op_fdivW (pe_c c__law_mix hr (by decide) (by rfl) (pa_cons (pe_ix ix_list (pv 0) pe_int (fun _ _ => rfl)) (pa_cons (pe_ix ix_list (pv 0) pe_int (fun _ _ => rfl)) pa_nil))) pe_int) (pv 1))))))), ?_⟩
  obtain ⟨ns, at_, held, cnt, seed, hst, hcl, hne, hh0⟩ := hD
  walk_at "rd"
  refine RD.ixL (.inl (.inl hst)) at3 ?_
  walk_at "rd"
  refine ⟨_, rfl, ⟨st, _, 3, 3, rfl, rfl, hst, rfl, ?_⟩⟩
  dsimp only [List.set]
  refine RD.seq ?_
  refine RD.ifJ (fun σ' H' => (∃ ov : Option V, σ' = [some (.ref st), some (.int many), ov, none]) ∧ ∃ (at' : Nat) (held' seed' : Int), Btw st H H' ∧ H' st = some (.lst [.ref cl, .int at', .int held', .int (cnt + 1), .int seed']) ∧ 0 ≤ held') (fun σ' H2 hP => ?_) (fun nx hrest => ?_)
  · obtain ⟨⟨ov, rfl⟩, at', held', seed', hb, hst1, hh1⟩ := hP
    have hcl1 := hb _ _ hne hcl
    walk_at "rd"
    refine RD.ixL (.inl (.inl hst1)) at2 ?_
    walk_at "rd"
    refine ite2 (fun h1 => ?_) (fun h1 => ?_)
    · have hp := of_decide_eq_true h1
      walk_at "rd"
      refine RD.ixL (.inl (.inl hst1)) at2 ?_
      walk_at "rd"
      refine .inl ⟨held', rfl, ?_⟩
      walk_at "rd"
      refine RD.i1 (by omega) ?_
      walk_at "rd"
      refine RD.ixL (.inl (.inl hst1)) at2 ?_
      walk_at "rd"
      refine RD.i1 (wide_div (b := 20) (by omega) (by omega) (by decide) (by decide)) ?_
      refine ⟨_, rfl, ⟨st, _, 2, 2, rfl, rfl, hst1, rfl, ?_⟩⟩
      walk_at "rd"
      have e0 : 0 ≤ held' % (many : Int) := Int.emod_nonneg _ (by omega)
      have e1 : held' % (many : Int) < many := Int.emod_lt_of_pos _ (by omega)
      have e2 : ((held' % (many : Int)).toNat : Int) = held' % (many : Int) := Int.toNat_of_nonneg e0
      rw [← e2]
      exact q' _ _ (by omega) (fun b u hb2 hu => by rw [upd_ne hb2]; exact hb b u hb2 hu) ⟨ns, at', held' / (many : Int), cnt + 1, seed', upd_same, by rw [upd_ne hne]; exact hcl1, hne, Int.ediv_nonneg hh1 (by omega)⟩
    · walk_at "rd"
      refine RD.ixL (.inl (.inl hst1)) at4 ?_
      walk_at "rd"
      refine RD.ixL (.inl (.inl hst1)) at3 ?_
      walk_at "rd"
      refine ⟨_, _, rfl, fun r hr0 => ?_⟩
      walk_at "rd"
      refine RD.i1 ⟨by decide, by decide +kernel⟩ ?_
      walk_at "rd"
      refine RD.i1 (by omega) ?_
      have e0 : 0 ≤ r / 16 % (many : Int) := Int.emod_nonneg _ (by omega)
      have e1 : r / 16 % (many : Int) < many := Int.emod_lt_of_pos _ (by omega)
      have e2 : ((r / 16 % (many : Int)).toNat : Int) = r / 16 % (many : Int) := Int.toNat_of_nonneg e0
      rw [← e2]
      exact q' _ _ (by omega) hb ⟨ns, at', held', cnt + 1, seed', hst1, hcl1, hne, hh1⟩
  · have no : nx [some (.ref st), some (.int many), none, none] (upd H st (.lst [.ref cl, .int at_, .int held, .int (cnt + 1), .int seed])) := hrest _ _ ⟨⟨none, rfl⟩, at_, held, seed, fun b u hb hu => by rw [upd_ne hb]; exact hu, upd_same, hh0⟩
    walk_at "rd"
    refine RD.ixL (.inl (.inl upd_same)) at2 ?_
    walk_at "rd"
    refine ite2 (fun h1 => ?_) (fun h1 => ?_)
    · walk_at "rd"
      refine RD.ixL (.inl (.inl upd_same)) at1 ?_
      walk_at "rd"
      refine RD.ixL (.inl (.inl upd_same)) at0 ?_
      walk_at "rd"
      refine SF.lenQl (.inl (.inl (by rw [upd_ne hne]; exact hcl))) ?_
      walk_at "rd"
      refine ite2 (fun h2 => ?_) (fun h2 => ?_)
      · have hp := of_decide_eq_true h2
        rw [List.length_map] at hp
        have ha : at_ < ns.length := by omega
        walk_at "rd"
        refine RD.ixL (.inl (.inl upd_same)) at0 ?_
        walk_at "rd"
        refine RD.ixL (.inl (.inl upd_same)) at1 ?_
        walk_at "rd"
        refine RD.ixL (.inl (.inl (by rw [upd_ne hne]; exact hcl))) (atI_nat (v := V.int ns[at_]) (by rw [List.getElem?_map, List.getElem?_eq_getElem ha]; rfl)) ?_
        walk_at "rd"
        refine RD.ixL (.inl (.inl upd_same)) at1 ?_
        walk_at "rd"
        refine ⟨_, rfl, ⟨st, _, 1, 1, rfl, rfl, upd_same, rfl, ?_⟩⟩
        dsimp only [List.set]
        walk_at "rd"
        refine RD.ixL (.inl (.inl upd_same)) at4 ?_
        walk_at "rd"
        refine RD.i1 (.inr ⟨by decide, by decide⟩) ?_
        walk_at "rd"
        refine .inl ⟨_, rfl, ?_⟩
        walk_at "rd"
        refine RD.i1 (by decide) ?_
        generalize (seed * 31 + ns[at_]) % 2147483647 = s2
        refine ⟨_, rfl, ⟨st, _, 4, 4, rfl, rfl, upd_same, rfl, ?_⟩⟩
        dsimp only [List.set]
        walk_at "rd"
        refine ⟨_, rfl, ⟨st, _, 2, 2, rfl, rfl, upd_same, rfl, ?_⟩⟩
        dsimp only [List.set]
        have bb : ∀ (o1 o2 o3 o4 : HO), Btw st H (upd (upd (upd (upd H st o1) st o2) st o3) st o4) := fun o1 o2 o3 o4 b u hb hu => by
          rw [upd_ne hb, upd_ne hb, upd_ne hb, upd_ne hb]
          exact hu
        walk_at "rd"
        refine RD.i1 ⟨by decide, by decide, by decide⟩ ?_
        walk_at "rd"
        refine ite2 (fun h3 => ?_) (fun h3 => ?_)
        · have h3' := of_decide_eq_true h3
          walk_at "rd"
          refine ⟨_, rfl, ⟨st, _, 2, 2, rfl, rfl, upd_same, rfl, ?_⟩⟩
          dsimp only [List.set]
          walk_at "rd"
          exact hrest _ _ ⟨⟨_, rfl⟩, at_ + 1, ns[at_], s2, fun b u hb hu => by rw [upd_ne hb]; exact bb _ _ _ _ b u hb hu, upd_same, by
            have : (10 : Int) ^ (18 : Int).toNat = 1000000000000000000 := by decide
            rw [this] at h3'
            omega⟩
        · (first | with_reducible refine RD.next ?_ | (with_reducible refine RD.ifF ?_; with_reducible refine RD.next ?_))
          exact hrest _ _ ⟨⟨_, rfl⟩, at_ + 1, 0, s2, bb _ _ _ _, upd_same, by decide⟩
      · walk_at "rd"
        exact no
    · walk_at "rd"
      exact no
end
end SF

set_option Elab.async false
set_option linter.all false
set_option maxRecDepth 100000
set_option maxHeartbeats 4000000
/-! names of letters; lists of texts -/
namespace RD
open PySem PySem.Spec PyProof.Rows L2 G0
theorem tm1 {r : V → List V → Hp → VK → Prop} {to te : TE} {σ : L2.St} {H : Hp} {Q : VK} (h : to σ H fun x H1 => (∃ a, x = .str a) ∧ te σ H1 fun y H2 => r x [y] H2 Q) : tM1 r to te σ H Q := h
end RD
namespace SF
open PySem PySem.Spec PyProof.Rows L2 G0
/-! ### names of letters -/
theorem letter_ok : ∀ c ∈ (List.range 26).map (97 + ·), Unicode.isAlpha c = true ∧ decide (c < 128) = true ∧ Unicode.isLower c = true ∧ (Unicode.isUpper c || Unicode.isTitle c) = false := by decide +kernel
theorem name_of {l : List Nat} (h1 : 1 ≤ l.length) (h8 : l.length ≤ 8) (h : ∀ c ∈ l, c ∈ (List.range 26).map (97 + ·)) : nameS ⟨l.toArray⟩ = true := by
  have hl : (⟨l.toArray⟩ : Str).length = l.length := List.size_toArray
  have a1 : Txt.isascii ⟨l.toArray⟩ = true := by
    unfold Txt.isascii
    rw [Array.all_eq_true_iff_forall_mem]
    exact fun c hc => (letter_ok c (h c (by simpa using hc))).2.1
  have a2 : Txt.isalpha ⟨l.toArray⟩ = true := by
    unfold Txt.isalpha
    rw [hl, Bool.and_eq_true]
    refine ⟨decide_eq_true (by omega), ?_⟩
    rw [Array.all_eq_true_iff_forall_mem]
    exact fun c hc => (letter_ok c (h c (by simpa using hc))).1
  have a3 : Txt.islower ⟨l.toArray⟩ = true := by
    unfold Txt.islower
    rw [Bool.and_eq_true]
    refine ⟨?_, ?_⟩
    · rw [← Array.any_toList, List.any_eq_true]
      cases l with
      | nil => simp at h1
      | cons c r => exact ⟨c, by simp, (letter_ok c (h c (by simp))).2.2.1⟩
    · rw [Bool.not_eq_true', ← Array.any_toList, List.any_eq_false]
      exact fun c hc => by
        rw [(letter_ok c (h c (by simpa using hc))).2.2.2]
        exact Bool.false_ne_true
  unfold nameS
  rw [hl, decide_eq_true h8, a1, a2, a3]
  rfl
def abc : Str := "abcdefghijklmnopqrstuvwxyz"
def codes : List Nat := (List.range 26).map (97 + ·)
theorem abc_at : ∀ k : Fin 26, abc.cps.toList[k.val]? = some (97 + k.val) := by decide +kernel
def chars (l : List Nat) : List Str := l.map fun c => ⟨#[c]⟩
theorem joinL_one : ∀ l : List Nat, TL.joinL [] (l.map fun c => [c]) = l
  | [] => rfl
  | [c] => rfl
  | c :: d :: r => by
    show [c] ++ ([] ++ TL.joinL [] ((d :: r).map fun c => [c])) = _
    rw [joinL_one (d :: r)]
    rfl
theorem join_chars (l : List Nat) : Txt.join ("" : Str) (chars l) = ⟨l.toArray⟩ := by
  have e := SX.join_S [] (l.map fun c => [c])
  rw [joinL_one] at e
  have e2 : chars l = (l.map fun c => [c]).map SX.S := by
    unfold chars
    rw [List.map_map]
    rfl
  rw [e2]
  exact e
theorem inV_str {x : Str} : ∀ {zs : List Str}, inV (.str x) (zs.map V.str) = decide (x ∈ zs)
  | [] => rfl
  | z :: zs => by
    have e : inV (.str x) ((z :: zs).map V.str) = (eqV (.str z) (.str x) || inV (.str x) (zs.map V.str)) := rfl
    have e2 : eqV (.str z) (.str x) = decide (z = x) := rfl
    rw [e, inV_str (zs := zs), e2, ← Bool.decide_or]
    exact decide_eq_decide.mpr ⟨fun h => List.mem_cons.mpr (h.imp Eq.symm id), fun h => (List.mem_cons.mp h).imp Eq.symm id⟩
theorem sub_len {α : Type} [BEq α] [LawfulBEq α] : ∀ {l m : List α}, l.Nodup → (∀ x ∈ l, x ∈ m) → l.length ≤ m.length
  | [], m, _, _ => Nat.zero_le _
  | a :: l, m, h, s => by
    obtain ⟨h1, h2⟩ := List.nodup_cons.mp h
    have hm : a ∈ m := s a (List.mem_cons_self ..)
    have e := List.length_erase_of_mem hm
    have := sub_len (m := m.erase a) h2 fun x hx => (List.mem_erase_of_ne (fun z : x = a => h1 (by rw [← z]; exact hx))).mpr (s x (List.mem_cons_of_mem _ hx))
    have p := List.length_pos_of_mem hm
    rw [List.length_cons]
    omega
/-- of 26 letters one is none of five words -/
theorem some_left {zs : List Str} (h : zs.length < 26) : (chars codes).filter (fun x => !decide (x ∈ zs)) ≠ [] := fun e => by
  have n : (chars codes).Nodup := by decide +kernel
  have l := sub_len n (m := zs) fun x hx => by
    have := List.filter_eq_nil_iff.mp e x hx
    simpa using this
  have : (chars codes).length = 26 := rfl
  omega
theorem one_name : ∀ x ∈ chars codes, nameS x = true ∧ x.length ≤ 8 := by decide +kernel
theorem abc_size : abc.cps.size = 26 := by decide +kernel
theorem abc_one {i c : Nat} (hi : i < 26) (h : abc.cps[i]? = some c) : (chars codes)[i]? = some ⟨#[c]⟩ := by
  have e := abc_at ⟨i, hi⟩
  rw [Array.getElem?_toList, h] at e
  obtain rfl := Option.some.inj e
  unfold chars codes
  rw [List.getElem?_map, List.getElem?_map, List.getElem?_range hi]
  rfl
theorem flat_strs : ∀ zs : List Str, (zs.map V.str).all flatV = true
  | [] => rfl
  | _ :: r => flat_strs r
end SF

set_option Elab.async false
set_option linter.all false
set_option maxRecDepth 100000
set_option maxHeartbeats 4000000
/-! _law_names -/
namespace SF
open PySem PySem.Spec PyProof.Rows L2 G0 BV
open C8 (Cal Mak Met pe_c pe_mk pe_mt pe_mt0 pe_gc)
/-- a name of one to eight letters -/
def Nm (z : Str) : Prop := ∃ l : List Nat, z = ⟨l.toArray⟩ ∧ 1 ≤ l.length ∧ l.length ≤ 8 ∧ ∀ c ∈ l, c ∈ codes
theorem Nm.name {z : Str} (h : Nm z) : nameS z = true ∧ 1 ≤ z.length ∧ z.length ≤ 8 := by
  obtain ⟨l, rfl, h1, h8, hc⟩ := h
  have e : (⟨l.toArray⟩ : Str).length = l.length := List.size_toArray
  exact ⟨name_of h1 h8 hc, by rw [e]; exact h1, by rw [e]; exact h8⟩
theorem cat_arr (l m : List Nat) : (⟨l.toArray⟩ : Str) ++ (⟨m.toArray⟩ : Str) = ⟨(l ++ m).toArray⟩ := by
  show Str.mk _ = Str.mk _
  congr 1
  simp
/-- some names: one letter of each is unlike those of the others, ahead or behind -/
def Nms (zs : List Str) : Prop := (∀ z ∈ zs, Nm z) ∧ (zs.length ≤ 26 → zs.Nodup)
def WNames (bs : List B) (R : B → Prop) : Prop := ∃ n : Nat, bs = [.src, .int n] ∧ n ≤ 1000 ∧ ∀ zs : List Str, zs.length = n → Nms zs → R (.lst (zs.map B.str))
def rowN (front : Bool) (shift : Nat) (bases : List (List Nat)) : List (List Nat) := bases.zipIdx.map fun q => if front = true then (97 + (shift + q.2) % 26) :: q.1 else q.1 ++ [97 + (shift + q.2) % 26]
theorem rowN_len {front : Bool} {shift : Nat} {bs : List (List Nat)} : (rowN front shift bs).length = bs.length := by unfold rowN; rw [List.length_map, List.length_zipIdx]
theorem rowN_app {front : Bool} {shift : Nat} {bs : List (List Nat)} {b : List Nat} : rowN front shift (bs ++ [b]) = rowN front shift bs ++ [if front = true then (97 + (shift + bs.length) % 26) :: b else b ++ [97 + (shift + bs.length) % 26]] := by
  unfold rowN
  rw [List.zipIdx_append, List.map_append]
  simp
theorem rowN_at {front : Bool} {shift : Nat} {bs : List (List Nat)} {i : Nat} {l : List Nat} (h : (rowN front shift bs)[i]? = some l) : ∃ b, bs[i]? = some b ∧ l = if front = true then (97 + (shift + i) % 26) :: b else b ++ [97 + (shift + i) % 26] := by
  unfold rowN at h
  rw [List.getElem?_map, List.getElem?_zipIdx] at h
  cases e : bs[i]? with
  | none => rw [e] at h; cases h
  | some b =>
    rw [e] at h
    refine ⟨b, rfl, ?_⟩
    have := Option.some.inj h
    simp at this
    exact this.symm
theorem letter_in (n : Nat) : 97 + n % 26 ∈ codes := List.mem_map_of_mem (List.mem_range.mpr (Nat.mod_lt _ (by decide)))
theorem rowN_ok {front : Bool} {shift : Nat} {bs : List (List Nat)} (h : ∀ b ∈ bs, b.length ≤ 7 ∧ ∀ c ∈ b, c ∈ codes) : Nms ((rowN front shift bs).map fun l => (⟨l.toArray⟩ : Str)) := by
  constructor
  · intro z hz
    obtain ⟨l, hl, rfl⟩ := List.mem_map.mp hz
    obtain ⟨i, hi⟩ := List.getElem?_of_mem hl
    obtain ⟨b, hb, rfl⟩ := rowN_at hi
    obtain ⟨h7, hc⟩ := h b (List.mem_of_getElem? hb)
    refine ⟨_, rfl, ?_, ?_, ?_⟩
    · split <;> simp
    · split <;> simp <;> omega
    · intro c hcm
      split at hcm
      · rcases List.mem_cons.mp hcm with e | hcm
        · rw [e]; exact letter_in _
        · exact hc c hcm
      · rcases List.mem_append.mp hcm with hcm | hcm
        · exact hc c hcm
        · rw [List.mem_singleton.mp hcm]; exact letter_in _
  · intro hl
    rw [List.length_map, rowN_len] at hl
    rw [List.Nodup, List.pairwise_iff_getElem]
    intro i j hi hj hij e
    rw [List.length_map, rowN_len] at hi hj
    have gi : (rowN front shift bs)[i]? = some ((rowN front shift bs)[i]'(by rw [rowN_len]; exact hi)) := List.getElem?_eq_getElem _
    have gj : (rowN front shift bs)[j]? = some ((rowN front shift bs)[j]'(by rw [rowN_len]; exact hj)) := List.getElem?_eq_getElem _
    obtain ⟨bi, _, ei⟩ := rowN_at gi
    obtain ⟨bj, _, ej⟩ := rowN_at gj
    rw [List.getElem_map, List.getElem_map] at e
    have e2 : (rowN front shift bs)[i]'(by rw [rowN_len]; exact hi) = (rowN front shift bs)[j]'(by rw [rowN_len]; exact hj) := by
      have := congrArg (fun s : Str => s.cps.toList) e
      simpa using this
    rw [ei, ej] at e2
    have key : (shift + i) % 26 = (shift + j) % 26 := by
      cases front with
      | true =>
        rw [if_pos rfl, if_pos rfl] at e2
        have := (List.cons.inj e2).1
        omega
      | false =>
        rw [if_neg Bool.false_ne_true, if_neg Bool.false_ne_true] at e2
        have e3 := congrArg List.getLast? e2
        rw [List.getLast?_concat, List.getLast?_concat] at e3
        have := Option.some.inj e3
        omega
    omega
theorem chars_of {ds ys : List B} (hl : ys.length = ds.length) (h : ∀ (i : Nat) (d y : B), ds[i]? = some d → ys[i]? = some y → ∃ c, c ∈ codes ∧ y = .str ⟨#[c]⟩) : ∃ l : List Nat, l.length = ds.length ∧ (∀ c ∈ l, c ∈ codes) ∧ ys = (chars l).map B.str := by
  induction ys generalizing ds with
  | nil => exact ⟨[], hl, fun c h => (List.not_mem_nil h).elim, rfl⟩
  | cons y ys ih =>
    cases ds with
    | nil => cases hl
    | cons d ds =>
      obtain ⟨l, h1, h2, h3⟩ := ih (ds := ds) (Nat.succ.inj hl) fun i d' y' a b => h (i + 1) d' y' (by simpa using a) (by simpa using b)
      obtain ⟨c, hc, e⟩ := h 0 d y rfl rfl
      refine ⟨c :: l, by rw [List.length_cons, List.length_cons, h1], fun c' hc' => (List.mem_cons.mp hc').elim (fun z => by rw [z]; exact hc) (h2 c'), ?_⟩
      rw [e, h3]
      rfl
theorem chars_sum (l : List Nat) : ((chars l).map (·.length)).sum = l.length := by
  unfold chars
  rw [List.map_map]
  induction l with
  | nil => rfl
  | cons c r ih => rw [List.map_cons, List.sum_cons, ih, List.length_cons]; show 1 + r.length = _; omega
theorem abc_ix {k : Nat} (h : k < 26) : atI (Str.ofString "abcdefghijklmnopqrstuvwxyz").cps.toList (k : Int) = some (97 + k) := atI_nat (abc_at ⟨k, h⟩)
theorem abc_sz : (Str.ofString "abcdefghijklmnopqrstuvwxyz").length ≤ sizeLine := by rw [sizeLine_eq]; decide +kernel
section
variable {P : Program} {w : World} {K : PySem.W.Frag} {mg : Str → Option Value} {base : Heap}
set_option Elab.async false
set_option linter.all false
set_option maxRecDepth 100000
set_option maxHeartbeats 4000000
local macro_rules | `(tactic| walk_at "bv1") => `(tactic| first
  | (with_reducible refine BV.seq ?_) | (with_reducible refine BV.next ?_) | (with_reducible refine BV.ifS ?_) | ((with_reducible apply BV.retO); exact rfl) | (with_reducible refine BV.ret ?_) | (with_reducible refine BV.retN ?_) | ((with_reducible apply BV.asgPop); exact rfl) | (with_reducible refine BV.asgL0 ?_) | (with_reducible refine BV.asgD0 ?_) | (with_reducible refine BV.asg ?_) | (with_reducible refine BV.asgG ?_)
  | ((with_reducible apply BV.append); exact rfl) | ((with_reducible apply BV.extend); exact rfl) | ((with_reducible apply BV.augI); exact rfl) | ((with_reducible apply BV.truO); exact rfl) | (with_reducible refine BV.dropE ?_)
  | ((with_reducible apply BV.var); exact rfl) | (with_reducible refine BV.cInt ?_) | (with_reducible refine BV.cStr ?_) | (with_reducible refine BV.cBl ?_) | (with_reducible refine BV.cNon ?_) | (with_reducible refine BV.cRaw ?_)
  | ((with_reducible refine BV.isiT2 ?h1 ?h2 ?_); (case h1 => decide +kernel); (case h2 => decide +kernel)) | ((with_reducible refine And.intro (show isPlainB _ = true from ?hz) ?_); (case hz => exact rfl)) | ((with_reducible refine BV.listVals ?hu ?_); (case hu => trivial))
  | (with_reducible refine BV.nil ?_) | (with_reducible refine BV.cons ?_) | (with_reducible refine BV.tup ?_) | (with_reducible refine BV.lst ?_) | (with_reducible refine BV.op ?_) | (with_reducible refine BV.un ?_) | (with_reducible refine BV.thn_ ?_) | (with_reducible refine BV.cb ?_)
  | (with_reducible refine BV.call ?_) | (with_reducible refine BV.callLo ?_) | (with_reducible refine BV.callW ?_) | (with_reducible refine BV.callLoW ?_) | (with_reducible refine BV.ifE ?_) | (with_reducible refine BV.andV ?_) | (with_reducible refine BV.orV ?_) | (with_reducible refine BV.notV ?_) | (with_reducible refine BV.chain ?_) | (with_reducible refine BV.sl ?_) | (with_reducible refine BV.noP ?_) | (with_reducible refine BV.part ?_) | (with_reducible refine BV.bm0S ?_) | (with_reducible refine BV.strJoin ?_)
  | (with_reducible refine BV.tB_ ?_) | (with_reducible refine BV.test ?_) | (with_reducible refine BV.and_ ?_) | (with_reducible refine BV.or_ ?_) | (with_reducible refine BV.not_ ?_) | (with_reducible refine BV.yes ?_)
  | (with_reducible refine BV.i0 ?_) | (with_reducible refine BV.i0b ?_) | (with_reducible refine BV.eqS ?_) | (with_reducible refine BV.eqI ?_) | (with_reducible refine BV.neS ?_) | (with_reducible refine BV.neI ?_) | (with_reducible refine BV.neB ?_)
  | ((with_reducible apply BV.ixT); exact rfl) | (with_reducible refine BV.ixT BV.at0' ?_) | ((with_reducible apply BV.ixL); exact rfl)
  | (with_reducible refine BV.lenL ?_) | (with_reducible refine BV.lenT ?_) | ((with_reducible apply BV.lenO); exact rfl)
  | (with_reducible refine BV.slT ?_) | (with_reducible refine BV.int1 ?_) | (with_reducible refine BV.tupOfL ?_) | (with_reducible refine BV.tupOfT ?_) | (with_reducible refine BV.listOfL ?_) | (with_reducible refine BV.listOfT ?_) | (with_reducible refine BV.min2 ?_)
  | ((with_reducible refine BV.isi ?hh ?hp ?_); (case hh => decide +kernel); (case hp => exact rfl)) | ((with_reducible refine BV.isN ?hp ?_); (case hp => exact rfl)) | ((with_reducible refine BV.notN ?hp ?_); (case hp => exact rfl))
  | (with_reducible refine BV.exBl ?_) | (with_reducible refine BV.exInt ?_) | (with_reducible refine BV.exLst ?_) | (with_reducible refine BV.exTup ?_) | (with_reducible refine BV.exStr ?_) | (with_reducible refine BV.exZip ?_)
  | (with_reducible refine RD.ifT ?_) | (with_reducible refine RD.ifF ?_) | (with_reducible refine RD.ifNT ?_) | (with_reducible refine RD.ifNF ?_)
  | ((with_reducible refine And.intro (show List.length _ ≤ sizeLine from ?hz) ?_); (case hz => exact Nat.le_of_ble_eq_true rfl)) | ((with_reducible refine And.intro (show List.length _ < sizeLine from ?hz) ?_); (case hz => exact Nat.le_of_ble_eq_true rfl))
  | ((with_reducible refine RD.ifDT ?hd ?_); (case hd => first | decide +kernel | exact rfl)) | ((with_reducible refine RD.ifDF ?hd ?_); (case hd => first | decide +kernel | exact rfl))
  | ((with_reducible refine BV.catT ?hz ?_); (case hz => exact Nat.le_of_ble_eq_true rfl)) | ((with_reducible refine BV.catL ?hz ?_); (case hz => exact Nat.le_of_ble_eq_true rfl))
  | (with_reducible refine BV.wlist ?_) | (with_reducible refine BV.wtup ?_) | (with_reducible refine BV.wstr ?_) | (with_reducible refine BV.wrng1 ?_) | (with_reducible refine BV.wrng2 ?_) | (with_reducible refine BV.wzip ?_) | (with_reducible refine BV.wenum ?_)
  | (with_reducible refine BV.lcNil ?_) | (with_reducible refine BV.lcCons ?_) | (with_reducible refine BV.forNil ?_) | (with_reducible refine BV.forCons ?_) | (with_reducible refine BV.joined ?_) | (with_reducible refine BV.jsCons ?_) | (with_reducible refine BV.jsNil ?_) | (with_reducible refine BV.fmtS ?_) | (with_reducible refine BV.str2S ?_) | (with_reducible refine BV.neg1 ?_) | (with_reducible refine BV.ofN (BV.dNew ?_))
  | (with_reducible refine BV.gname ?_) | (with_reducible refine BV.gnil ?_) | (with_reducible refine BV.gcons ?_) | ((with_reducible apply BV.gtup); exact rfl)
  | ((with_reducible refine BV.vname ?hh ?_); (case hh => decide)) | (with_reducible refine BV.vnil ?_) | (with_reducible refine BV.vcons ?_) | ((with_reducible apply BV.vtup); exact rfl)
  | (with_reducible refine BV.dget ?_) | (with_reducible refine BV.din ?_) | (with_reducible refine BV.dnotin ?_))
local macro_rules | `(tactic| walk_at "bv") => `(tactic| repeat walk_at "bv1")

theorem sc__law_names : FnScope ["_law_source_here", "_law_many", "_law_alphabet", "_law_front", "_law_shift", "_law_names_here", "_law_k", "_law_base", "_law_letter", "_law_j"] ["_law_source_here", "_law_many"] (defScope (topS 30)) := ⟨rfl, rfl, rfl, by decide +kernel, rfl, by decide +kernel, by decide +kernel⟩
theorem ok_names (T : TxtD K mg) (c__law_draw : Cal P w K mg base 2 "_law_draw" (SpB G3.lo K WDraw) []) {f : Addr} {fd : FuncData} (F : Fun K "_law_names" "_law_names" (topS 30) f fd) : FnOk P w K mg base CX0 3 f fd ["_law_source_here", "_law_many"] (SpB G3 K WNames) := by
  refine F.ok sc__law_names (fun vs H Q E h => spLen (fun bs R hW => by obtain ⟨n, rfl, _⟩ := hW; rfl) h) (fun cdv A outer s H vs Q E hr h => ?_)
  refine ⟨_, (pss_cons (ps_set (i := 2) sc__law_names.nd rfl (Or.inr rfl) pe_str)
      (pss_cons (ps_set (i := 3) sc__law_names.nd rfl (Or.inl rfl) (pe_cmpR op_eq (pe_c c__law_draw hr (by decide) (by rfl) (pa_cons (pv 0) (pa_cons pe_int pa_nil))) pe_int (nomark _)))
      (pss_cons (ps_set (i := 4) sc__law_names.nd rfl (Or.inl rfl) (pe_c c__law_draw hr (by decide) (by rfl) (pa_cons (pv 0) (pa_cons pe_int pa_nil))))
      (pss_cons (ps_set (i := 5) sc__law_names.nd rfl (Or.inl rfl) (pe_lst pa_nil))
      (pss_cons (ps_for PassesOwn.never rfl (pi_range1 (by rfl) T.b_range (pa_cons (pv 1) pa_nil)) (pg_name (i := 6) sc__law_names.nd rfl (Or.inl rfl)) (pss_cons (ps_set (i := 7) sc__law_names.nd rfl (Or.inl rfl) (pe_join pe_str (pe_lc (own := [("_law_j", 9)]) (tt := tYes) rfl sc__law_names.nd (pi_range1 (by rfl) T.b_range (pa_cons (pe_c c__law_draw hr (by decide) (by rfl) (pa_cons (pv 0) (pa_cons pe_int pa_nil))) pa_nil)) (blkOk_by (N := ["_law_source_here", "_law_many", "_law_alphabet", "_law_front", "_law_shift", "_law_names_here", "_law_k", "_law_base", "_law_letter", "_law_j"]) (sc := defScope (topS 30)) (by decide +kernel)) (fun _ _ _ _ _ => (pg_name (i := 9) sc__law_names.nd rfl (Or.inl rfl))) (fun _ _ _ _ _ => pts_nil) (fun _ _ _ _ _ => (pe_ix ix_str (pv 2) (pe_c c__law_draw hr (by decide) (by rfl) (pa_cons (pv 0) (pa_cons pe_int pa_nil))) (fun _ _ => rfl))))))
      (pss_cons (ps_set (i := 8) sc__law_names.nd rfl (Or.inl rfl) (pe_ix ix_str (pv 2) (pe_op op_mod (pe_op op_add (pv 4) (pv 6)) pe_int) (fun _ _ => rfl)))
      (pss_one (ps_if (pt_val (pv 3)) (pss_one (ps_expr (pe_bm PySem.F.plainAttrs_list PySem.F.slot_list_append PySem.F.type_list_append mt_append (pv 5) (pa_cons (pe_op op_add_str (pv 8) (pv 7)) pa_nil)))) (pss_one (ps_expr (pe_bm PySem.F.plainAttrs_list PySem.F.slot_list_append PySem.F.type_list_append mt_append (pv 5) (pa_cons (pe_op op_add_str (pv 7) (pv 8)) pa_nil)))))))))
      (pss_one (ps_ret (pv 5)))))))), ?_⟩
  refine body h _ fun bs R hW hl => ?_
  obtain ⟨n, rfl, hn, hq⟩ := hW
  change bwS G3 K _ [.sh (.src), .sh (.int n), .no, .no, .no, .no, .no, .no, .no, .no] _
  dsimp only [cxOf, Cx.nox]
  walk_at "bv"
  refine ⟨2, rfl, by decide, by decide, fun fr hfr => ?_⟩
  walk_at "bv"
  refine ⟨26, rfl, by decide, by decide, fun sh hsh => ?_⟩
  walk_at "bv"
  refine forI ?_
  walk_at "bv"
  refine ⟨n, rfl, by omega, fun k Γ' => ∃ (xs : List B) (bases : List (List Nat)) (c6 c7 c8 : Cell), Γ' = [.sh .src, .sh (.int n), .sh (.str "abcdefghijklmnopqrstuvwxyz"), .sh (.bl (decide ((fr : Int) = 0))), .sh (.int sh), .ow (.lst xs), c6, c7, c8, .no] ∧ xs = ((rowN (decide ((fr : Int) = 0)) sh bases).map fun l => B.str ⟨l.toArray⟩) ∧ bases.length = k ∧ ∀ b ∈ bases, b.length ≤ 7 ∧ ∀ c ∈ b, c ∈ codes, ⟨[], [], .no, .no, .no, rfl, rfl, rfl, fun b h => (List.not_mem_nil h).elim⟩, fun k d Γ' hd hI => ?_, fun Γ' hI => ?_⟩
  · obtain ⟨xs, bases, c6, c7, c8, rfl, hxs, hb, hok⟩ := hI
    obtain ⟨hk, rfl⟩ := rng_at hd
    walk_at "bv"
    refine ofN (lcRel ?_)
    walk_at "bv"
    refine ⟨8, rfl, by decide, by decide, fun m hm => ?_⟩
    walk_at "bv"
    refine ⟨m, rfl, by omega, by rw [rng_len, sizeLine_eq]; omega, fun _ y => ∃ c, c ∈ codes ∧ y = .str ⟨#[c]⟩, fun i d hd => ?_, fun ys hl hy => ?_⟩
    · walk_at "bv"
      refine ⟨26, rfl, by decide, by decide, fun j hj => ?_⟩
      walk_at "bv"
      exact ixS abc_sz (abc_ix hj) ⟨97 + j, List.mem_map_of_mem (List.mem_range.mpr hj), rfl⟩
    · obtain ⟨l, h1, h2, rfl⟩ := chars_of hl hy
      rw [rng_len] at h1
      refine ⟨chars l, rfl, by rw [chars_sum]; show l.length + _ * 0 ≤ _; omega, ?_⟩
      have ej : Txt.join (Str.ofString "") (chars l) = ⟨l.toArray⟩ := join_chars l
      rw [ej]
      walk_at "bv"
      refine BV.i1 (by decide) ?_
      have e1 : ((sh : Int) + (0 + (k : Int))) % 26 = (((sh + k) % 26 : Nat) : Int) := by omega
      rw [e1]
      refine ixS abc_sz (abc_ix (Nat.mod_lt _ (by decide))) ?_
      walk_at "bv"
      have hl7 : l.length ≤ 7 := by omega
      have ok' : ∀ b ∈ bases ++ [l], b.length ≤ 7 ∧ ∀ c ∈ b, c ∈ codes := fun b' hm' => (List.mem_append.mp hm').elim (hok b') fun z => by rw [List.mem_singleton.mp z]; exact ⟨hl7, h2⟩
      have hx : xs.length < sizeLine := by rw [hxs, List.length_map, rowN_len, sizeLine_eq]; omega
      have l1 : (⟨#[97 + (sh + k) % 26]⟩ : Str).length = 1 := rfl
      have l2 : (⟨l.toArray⟩ : Str).length = l.length := List.size_toArray
      refine ite2 (fun hb' => ?_) (fun hb' => ?_)
      · walk_at "bv"
        refine catS (by rw [l1, l2, sizeLine_eq]; omega) ⟨hx, _, bases ++ [l], _, _, _, rfl, ?_, by rw [List.length_append, hb]; rfl, ok'⟩
        rw [rowN_app, List.map_append, hb', hb, if_pos rfl, hxs, hb']
        have e2 : (⟨#[97 + (sh + k) % 26]⟩ : Str) ++ (⟨l.toArray⟩ : Str) = ⟨((97 + (sh + k) % 26) :: l).toArray⟩ := cat_arr [97 + (sh + k) % 26] l
        rw [e2]
        rfl
      · walk_at "bv"
        refine catS (by rw [l1, l2, sizeLine_eq]; omega) ⟨hx, _, bases ++ [l], _, _, _, rfl, ?_, by rw [List.length_append, hb]; rfl, ok'⟩
        rw [rowN_app, List.map_append, eq_false_of_ne_true hb', hb, if_neg Bool.false_ne_true, hxs, eq_false_of_ne_true hb']
        have e2 : (⟨l.toArray⟩ : Str) ++ (⟨#[97 + (sh + k) % 26]⟩ : Str) = ⟨(l ++ [97 + (sh + k) % 26]).toArray⟩ := cat_arr l [97 + (sh + k) % 26]
        rw [e2]
        rfl
  · obtain ⟨xs, bases, c6, c7, c8, rfl, hxs, hb, hok⟩ := hI
    walk_at "bv"
    have := hq ((rowN (decide ((fr : Int) = 0)) sh bases).map fun l => (⟨l.toArray⟩ : Str)) (by rw [List.length_map, rowN_len, hb, rng_len]) (rowN_ok hok)
    rw [List.map_map] at this
    rw [hxs]
    exact this
end
end SF

set_option Elab.async false
set_option linter.all false
set_option maxRecDepth 100000
set_option maxHeartbeats 4000000
/-! names, numbers, copies: of the program, by value -/
namespace SF
open PySem PySem.Spec PyProof.Rows L2 G0 BV
open C8 (Cal Mak Met pe_c pe_mk pe_mt pe_mt0 pe_gc)
/-- what the program's own texts and numbers are -/
structure TxtE (K : PySem.W.Frag) (mg : Str → Option Value) : Prop extends TxtD K mg where
  b_isinstance : mg "isinstance" = none
  b_str : mg "str" = none
  b_tuple : mg "tuple" = none
  b_dict : mg "dict" = none
  b_bool : mg "bool" = none
  b_all : mg "all" = none
  b_zip : mg "zip" = none
  b_super : mg "super" = none
  g_MOST_PARTS : Int1 mg "MOST_PARTS" 100000
  g_MOST_LETTERS : Int1 mg "MOST_LETTERS" 8
  g_HIGHEST_NUMBER : Int1 mg "HIGHEST_NUMBER" 999999
def isIntB : B → Bool
  | .int _ => true
  | _ => false
/-- a text is at most so long -/
def nameB : B → Bool
  | .str z => nameS z
  | _ => false
def shortB : B → Bool
  | .str z => decide (z.length ≤ 1000000)
  | _ => true
def isNumB : B → Bool
  | .int i => decide (0 ≤ i) && decide (i ≤ 999999)
  | _ => false
def WIsInt (bs : List B) (R : B → Prop) : Prop := ∃ x, bs = [x] ∧ isPlainB x = true ∧ R (.bl (isIntB x))
def WIsName (bs : List B) (R : B → Prop) : Prop := ∃ x, bs = [x] ∧ isPlainB x = true ∧ shortB x = true ∧ R (.bl (nameB x))
def WIsNum (bs : List B) (R : B → Prop) : Prop := ∃ x, bs = [x] ∧ isPlainB x = true ∧ R (.bl (isNumB x))
section
variable {P : Program} {w : World} {K : PySem.W.Frag} {mg : Str → Option Value} {base : Heap}
set_option Elab.async false
set_option linter.all false
set_option maxRecDepth 100000
set_option maxHeartbeats 4000000
local macro_rules | `(tactic| walk_at "bv1") => `(tactic| first
  | (with_reducible refine BV.seq ?_) | (with_reducible refine BV.next ?_) | (with_reducible refine BV.ifS ?_) | ((with_reducible apply BV.retO); exact rfl) | (with_reducible refine BV.ret ?_) | (with_reducible refine BV.retN ?_) | ((with_reducible apply BV.asgPop); exact rfl) | (with_reducible refine BV.asgL0 ?_) | (with_reducible refine BV.asgD0 ?_) | (with_reducible refine BV.asg ?_) | (with_reducible refine BV.asgG ?_)
  | ((with_reducible apply BV.append); exact rfl) | ((with_reducible apply BV.extend); exact rfl) | ((with_reducible apply BV.augI); exact rfl) | ((with_reducible apply BV.truO); exact rfl) | (with_reducible refine BV.dropE ?_)
  | ((with_reducible apply BV.var); exact rfl) | (with_reducible refine BV.cInt ?_) | (with_reducible refine BV.cStr ?_) | (with_reducible refine BV.cBl ?_) | (with_reducible refine BV.cNon ?_) | (with_reducible refine BV.cRaw ?_)
  | ((with_reducible refine BV.isiT2 ?h1 ?h2 ?_); (case h1 => decide +kernel); (case h2 => decide +kernel)) | ((with_reducible refine And.intro (show isPlainB _ = true from ?hz) ?_); (case hz => exact rfl)) | ((with_reducible refine BV.listVals ?hu ?_); (case hu => trivial))
  | (with_reducible refine BV.nil ?_) | (with_reducible refine BV.cons ?_) | (with_reducible refine BV.tup ?_) | (with_reducible refine BV.lst ?_) | (with_reducible refine BV.op ?_) | (with_reducible refine BV.un ?_) | (with_reducible refine BV.thn_ ?_) | (with_reducible refine BV.cb ?_)
  | (with_reducible refine BV.call ?_) | (with_reducible refine BV.callLo ?_) | (with_reducible refine BV.callW ?_) | (with_reducible refine BV.callLoW ?_) | (with_reducible refine BV.ifE ?_) | (with_reducible refine BV.andV ?_) | (with_reducible refine BV.orV ?_) | (with_reducible refine BV.notV ?_) | (with_reducible refine BV.chain ?_) | (with_reducible refine BV.sl ?_) | (with_reducible refine BV.noP ?_) | (with_reducible refine BV.part ?_) | (with_reducible refine BV.bm0S ?_) | (with_reducible refine BV.strJoin ?_)
  | (with_reducible refine BV.tB_ ?_) | (with_reducible refine BV.test ?_) | (with_reducible refine BV.and_ ?_) | (with_reducible refine BV.or_ ?_) | (with_reducible refine BV.not_ ?_) | (with_reducible refine BV.yes ?_)
  | (with_reducible refine BV.i0 ?_) | (with_reducible refine BV.i0b ?_) | (with_reducible refine BV.eqS ?_) | (with_reducible refine BV.eqI ?_) | (with_reducible refine BV.neS ?_) | (with_reducible refine BV.neI ?_) | (with_reducible refine BV.neB ?_)
  | ((with_reducible apply BV.ixT); exact rfl) | (with_reducible refine BV.ixT BV.at0' ?_) | ((with_reducible apply BV.ixL); exact rfl)
  | (with_reducible refine BV.lenL ?_) | (with_reducible refine BV.lenT ?_) | ((with_reducible apply BV.lenO); exact rfl)
  | (with_reducible refine BV.slT ?_) | (with_reducible refine BV.int1 ?_) | (with_reducible refine BV.tupOfL ?_) | (with_reducible refine BV.tupOfT ?_) | (with_reducible refine BV.listOfL ?_) | (with_reducible refine BV.listOfT ?_) | (with_reducible refine BV.min2 ?_)
  | ((with_reducible refine BV.isi ?hh ?hp ?_); (case hh => decide +kernel); (case hp => exact rfl)) | ((with_reducible refine BV.isN ?hp ?_); (case hp => exact rfl)) | ((with_reducible refine BV.notN ?hp ?_); (case hp => exact rfl))
  | (with_reducible refine BV.exBl ?_) | (with_reducible refine BV.exInt ?_) | (with_reducible refine BV.exLst ?_) | (with_reducible refine BV.exTup ?_) | (with_reducible refine BV.exStr ?_) | (with_reducible refine BV.exZip ?_)
  | (with_reducible refine RD.ifT ?_) | (with_reducible refine RD.ifF ?_) | (with_reducible refine RD.ifNT ?_) | (with_reducible refine RD.ifNF ?_)
  | ((with_reducible refine And.intro (show List.length _ ≤ sizeLine from ?hz) ?_); (case hz => exact Nat.le_of_ble_eq_true rfl)) | ((with_reducible refine And.intro (show List.length _ < sizeLine from ?hz) ?_); (case hz => exact Nat.le_of_ble_eq_true rfl))
  | ((with_reducible refine RD.ifDT ?hd ?_); (case hd => first | decide +kernel | exact rfl)) | ((with_reducible refine RD.ifDF ?hd ?_); (case hd => first | decide +kernel | exact rfl))
  | ((with_reducible refine BV.catT ?hz ?_); (case hz => exact Nat.le_of_ble_eq_true rfl)) | ((with_reducible refine BV.catL ?hz ?_); (case hz => exact Nat.le_of_ble_eq_true rfl))
  | (with_reducible refine BV.wlist ?_) | (with_reducible refine BV.wtup ?_) | (with_reducible refine BV.wstr ?_) | (with_reducible refine BV.wrng1 ?_) | (with_reducible refine BV.wrng2 ?_) | (with_reducible refine BV.wzip ?_) | (with_reducible refine BV.wenum ?_)
  | (with_reducible refine BV.lcNil ?_) | (with_reducible refine BV.lcCons ?_) | (with_reducible refine BV.forNil ?_) | (with_reducible refine BV.forCons ?_) | (with_reducible refine BV.joined ?_) | (with_reducible refine BV.jsCons ?_) | (with_reducible refine BV.jsNil ?_) | (with_reducible refine BV.fmtS ?_) | (with_reducible refine BV.str2S ?_) | (with_reducible refine BV.neg1 ?_) | (with_reducible refine BV.ofN (BV.dNew ?_))
  | (with_reducible refine BV.gname ?_) | (with_reducible refine BV.gnil ?_) | (with_reducible refine BV.gcons ?_) | ((with_reducible apply BV.gtup); exact rfl)
  | ((with_reducible refine BV.vname ?hh ?_); (case hh => decide)) | (with_reducible refine BV.vnil ?_) | (with_reducible refine BV.vcons ?_) | ((with_reducible apply BV.vtup); exact rfl)
  | (with_reducible refine BV.dget ?_) | (with_reducible refine BV.din ?_) | (with_reducible refine BV.dnotin ?_))
local macro_rules | `(tactic| walk_at "bv") => `(tactic| repeat walk_at "bv1")

theorem sc_is_integer : FnScope ["thing"] ["thing"] (defScope (topS 2)) := ⟨rfl, rfl, rfl, by decide +kernel, rfl, by decide +kernel, by decide +kernel⟩
theorem ok_isInt (T : TxtE K mg) {f : Addr} {fd : FuncData} (F : Fun K "is_integer" "is_integer" (topS 2) f fd) : FnOk P w K mg base CX0 1 f fd ["thing"] (SpB G3.lo K WIsInt) := by
  refine F.ok sc_is_integer (fun vs H Q E h => spLen (fun bs R hW => by obtain ⟨x, rfl, _⟩ := hW; rfl) h) (fun cdv A outer s H vs Q E hr h => ?_)
  refine ⟨_, (pss_one (ps_ret (pe_and (pe_callB call_isi (by rfl) T.b_isinstance (by decide +kernel) (pa_cons (pv 0) (pa_cons (pe_bltn (v := .ty "int") (by rfl) T.b_int (by decide +kernel) rfl) pa_nil))) (pe_one (pe_not (pe_callB call_isi (by rfl) T.b_isinstance (by decide +kernel) (pa_cons (pv 0) (pa_cons (pe_bltn (v := .ty "bool") (by rfl) T.b_bool (by decide +kernel) rfl) pa_nil)))))))), ?_⟩
  refine body h _ fun bs R hW hl => ?_
  obtain ⟨x, rfl, hp, hq⟩ := hW
  change bwS G3.lo K _ [.sh (x)] _
  try dsimp only [cxOf, Cx.nox]
  cases x with
  | src => cases hp
  | raw _ => cases hp
  | xc _ _ _ _ => cases hp
  | _ =>
    walk_at "bv"
    exact hq
theorem sc_is_name : FnScope ["thing"] ["thing"] (defScope (topS 3)) := ⟨rfl, rfl, rfl, by decide +kernel, rfl, by decide +kernel, by decide +kernel⟩
theorem ok_isName (T : TxtE K mg) {f : Addr} {fd : FuncData} (F : Fun K "is_name" "is_name" (topS 3) f fd) : FnOk P w K mg base CX0 1 f fd ["thing"] (SpB G3.lo K WIsName) := by
  refine F.ok sc_is_name (fun vs H Q E h => spLen (fun bs R hW => by obtain ⟨x, rfl, _⟩ := hW; rfl) h) (fun cdv A outer s H vs Q E hr h => ?_)
  obtain ⟨vMOST_LETTERS, eL, rL⟩ := T.g_MOST_LETTERS
  refine ⟨_, (pss_cons (ps_if ((pw_or (pt_not (pt_val (pe_callB call_isi (by rfl) T.b_isinstance (by decide +kernel) (pa_cons (pv 0) (pa_cons (pe_bltn (v := .ty "str") (by rfl) T.b_str (by decide +kernel) rfl) pa_nil))))) (pw_or1 (pt_cmpR op_gt (pe_callB call_lenT (by rfl) T.b_len PySem.boot_len (pa_cons (pv 0) pa_nil)) (pe_gc (by rfl) T.g_MOST_LETTERS) (nomark _))))).pt (pss_one (ps_ret pe_bl)) pss_nil)
      (pss_one (ps_ret (pe_and (pe_bm0 PySem.F.plainAttrs_str PySem.F.slot_str_isascii PySem.F.type_str_isascii mt_isascii (pv 0)) (pe_and (pe_bm0 PySem.F.plainAttrs_str PySem.F.slot_str_isalpha PySem.F.type_str_isalpha mt_isalpha (pv 0)) (pe_one (pe_bm0 PySem.F.plainAttrs_str PySem.F.slot_str_islower PySem.F.type_str_islower mt_islower (pv 0)))))))), ?_⟩
  refine body h _ fun bs R hW hl => ?_
  obtain ⟨x, rfl, hp, hs, hq⟩ := hW
  change bwS G3.lo K _ [.sh (x)] _
  try dsimp only [cxOf, Cx.nox]
  cases x with
  | src => cases hp
  | raw _ => cases hp
  | xc _ _ _ _ => cases hp
  | str z =>
    have e0 : nameB (.str z) = nameS z := rfl
    walk_at "bv"
    refine lenS (of_decide_eq_true hs) ?_
    walk_at "bv"
    refine ite2 (fun h8 => ?_) (fun h8 => ?_)
    · have h8' := of_decide_eq_true h8
      have : nameB (.str z) = false := by
        rw [e0]
        unfold nameS
        rw [decide_eq_false (by omega)]
        rfl
      rw [this] at hq
      walk_at "bv"
      exact hq
    · have h8' := of_decide_eq_false (eq_false_of_ne_true h8)
      have : nameB (.str z) = (Txt.isascii z && (Txt.isalpha z && Txt.islower z)) := by
        rw [e0]
        unfold nameS
        rw [decide_eq_true (by omega)]
        rfl
      rw [this] at hq
      walk_at "bv"
      refine ite2 (fun h1 => ?_) (fun h1 => ?_)
      · rw [h1] at hq
        walk_at "bv"
        refine ite2 (fun h2 => ?_) (fun h2 => ?_)
        · rw [h2] at hq
          walk_at "bv"
          exact hq
        · rw [eq_false_of_ne_true h2] at hq
          walk_at "bv"
          exact hq
      · rw [eq_false_of_ne_true h1] at hq
        walk_at "bv"
        exact hq
  | _ =>
    walk_at "bv"
    exact hq
theorem sc__is_number : FnScope ["thing"] ["thing"] (defScope (topS 20)) := ⟨rfl, rfl, rfl, by decide +kernel, rfl, by decide +kernel, by decide +kernel⟩
theorem ok_isNum (T : TxtE K mg) (c_is_integer : Cal P w K mg base 1 "is_integer" (SpB G3.lo K WIsInt) []) {f : Addr} {fd : FuncData} (F : Fun K "_is_number" "_is_number" (topS 20) f fd) : FnOk P w K mg base CX0 2 f fd ["thing"] (SpB G3.lo K WIsNum) := by
  refine F.ok sc__is_number (fun vs H Q E h => spLen (fun bs R hW => by obtain ⟨x, rfl, _⟩ := hW; rfl) h) (fun cdv A outer s H vs Q E hr h => ?_)
  obtain ⟨vHIGHEST, eH, rH⟩ := T.g_HIGHEST_NUMBER
  refine ⟨_, (pss_one (ps_ret (pe_and (pe_c c_is_integer hr (by decide) (by rfl) (pa_cons (pv 0) pa_nil)) (pe_one (pe_chain op_le op_le pe_int (pv 0) (pe_gc (by rfl) T.g_HIGHEST_NUMBER)))))), ?_⟩
  refine body h _ fun bs R hW hl => ?_
  obtain ⟨x, rfl, hp, hq⟩ := hW
  change bwS G3.lo K _ [.sh (x)] _
  try dsimp only [cxOf, Cx.nox]
  walk_at "bv"
  refine ⟨x, rfl, hp, ?_⟩
  cases x with
  | int i =>
    have e0 : isNumB (.int i) = (decide (0 ≤ i) && decide (i ≤ 999999)) := rfl
    rw [e0] at hq
    walk_at "bv"
    refine ite2 (fun h1 => ?_) (fun h1 => ?_)
    · rw [h1] at hq
      walk_at "bv"
      exact hq
    · rw [eq_false_of_ne_true h1] at hq
      walk_at "bv"
      exact hq
  | _ =>
    walk_at "bv"
    exact hq
end
end SF

set_option Elab.async false
set_option linter.all false
set_option maxRecDepth 100000
set_option maxHeartbeats 4000000
/-! copies, by value -/
-- --omega
namespace SF
open PySem PySem.Spec PyProof.Rows L2 G0 BV
open C8 (Cal Mak Met pe_c pe_mk pe_mt pe_mt0 pe_gc)
mutual
/-- how many parts it has -/
def szB : B → Nat
  | .tup ds => 1 + szsB ds
  | .lst ds => 1 + szsB ds
  | .dct _ ds => 1 + szsB ds
  | _ => 1
def szsB : List B → Nat
  | [] => 0
  | d :: ds => szB d + szsB ds
end
theorem szB_pos (b : B) : 1 ≤ szB b := by cases b <;> simp [szB]
theorem szs_app : ∀ {xs ys : List B}, szsB (xs ++ ys) = szsB xs + szsB ys
  | [], ys => by simp [szsB]
  | x :: xs, ys => by
    rw [List.cons_append, szsB, szsB, szs_app]
    omega
theorem szs_len : ∀ {xs : List B}, xs.length ≤ szsB xs
  | [] => Nat.zero_le _
  | x :: xs => by
    have := szs_len (xs := xs)
    have := szB_pos x
    rw [szsB, List.length_cons]
    omega
mutual
/-- data of nesting below n; no dict has parts -/
def cpB : Nat → B → Bool
  | _, .src => false
  | _, .raw _ => false
  | _, .xc _ _ _ _ => false
  | n, .tup ds => decide (0 < n) && cpsB (n - 1) ds
  | n, .lst ds => decide (0 < n) && cpsB (n - 1) ds
  | n, .dct ks ds => decide (0 < n) && (ks.isEmpty && ds.isEmpty)
  | n, _ => decide (0 < n)
def cpsB : Nat → List B → Bool
  | _, [] => true
  | n, d :: ds => cpB n d && cpsB n ds
end
mutual
theorem cp_up : ∀ {n : Nat} {b : B}, cpB n b = true → cpB (n + 1) b = true
  | n, .src, h => by simp [cpB] at h
  | n, .raw _, h => by simp [cpB] at h
  | n, .xc _ _ _ _, h => by simp [cpB] at h
  | n, .non, h => by simp [cpB]
  | n, .bl _, h => by simp [cpB]
  | n, .int _, h => by simp [cpB]
  | n, .str _, h => by simp [cpB]
  | 0, .tup ds, h => by simp [cpB] at h
  | 0, .lst ds, h => by simp [cpB] at h
  | n + 1, .tup ds, h => by
    simp [cpB] at h ⊢
    exact cps_up h
  | n + 1, .lst ds, h => by
    simp [cpB] at h ⊢
    exact cps_up h
  | n, .dct ks ds, h => by
    simp [cpB] at h ⊢
    exact h.2
theorem cps_up : ∀ {n : Nat} {ds : List B}, cpsB n ds = true → cpsB (n + 1) ds = true
  | n, [], h => by rw [cpsB]
  | n, d :: ds, h => by
    rw [cpsB, Bool.and_eq_true] at h ⊢
    exact ⟨cp_up h.1, cps_up h.2⟩
end
theorem cps_app {n : Nat} : ∀ {xs ys : List B}, cpsB n (xs ++ ys) = (cpsB n xs && cpsB n ys)
  | [], ys => by rw [List.nil_append, cpsB, Bool.true_and]
  | x :: xs, ys => by rw [List.cons_append, cpsB, cpsB, cps_app, Bool.and_assoc]
theorem cps_at {n : Nat} : ∀ {xs : List B} {i : Nat} {d : B}, cpsB n xs = true → xs[i]? = some d → cpB n d = true
  | [], i, d, _, h => by simp at h
  | x :: xs, 0, d, h, e => by
    rw [cpsB, Bool.and_eq_true] at h
    rw [← Option.some.inj e]
    exact h.1
  | x :: xs, i + 1, d, h, e => by
    rw [cpsB, Bool.and_eq_true] at h
    exact cps_at h.2 (by simpa using e)
theorem szs_at : ∀ {xs : List B} {i : Nat} {d : B}, xs[i]? = some d → szB d ≤ szsB xs
  | [], i, d, h => by simp at h
  | x :: xs, 0, d, e => by
    rw [szsB, ← Option.some.inj e]
    exact Nat.le_add_right _ _
  | x :: xs, i + 1, d, e => by
    have := szs_at (xs := xs) (i := i) (d := d) (by simpa using e)
    rw [szsB]
    omega
theorem cp_plain {n : Nat} {b : B} (h : cpB n b = true) : isPlainB b = true := by
  cases b <;> simp [cpB, isPlainB] at h ⊢
def WFew (bs : List B) (R : B → Prop) : Prop := ∃ x n, bs = [x] ∧ cpB n x = true ∧ szB x ≤ 100000 ∧ R (.bl true)
def WCopy (n : Nat) (bs : List B) (R : B → Prop) : Prop := ∃ x, bs = [x] ∧ cpB n x = true ∧ szB x ≤ 100000 ∧ R x
section
variable {P : Program} {w : World} {K : PySem.W.Frag} {mg : Str → Option Value} {base : Heap}
set_option Elab.async false
set_option linter.all false
set_option maxRecDepth 100000
set_option maxHeartbeats 4000000
local macro_rules | `(tactic| walk_at "bv1") => `(tactic| first
  | (with_reducible refine BV.seq ?_) | (with_reducible refine BV.next ?_) | (with_reducible refine BV.ifS ?_) | ((with_reducible apply BV.retO); exact rfl) | (with_reducible refine BV.ret ?_) | (with_reducible refine BV.retN ?_) | ((with_reducible apply BV.asgPop); exact rfl) | (with_reducible refine BV.asgL0 ?_) | (with_reducible refine BV.asgD0 ?_) | (with_reducible refine BV.asg ?_) | (with_reducible refine BV.asgG ?_)
  | ((with_reducible apply BV.append); exact rfl) | ((with_reducible apply BV.extend); exact rfl) | ((with_reducible apply BV.augI); exact rfl) | ((with_reducible apply BV.truO); exact rfl) | (with_reducible refine BV.dropE ?_)
  | ((with_reducible apply BV.var); exact rfl) | (with_reducible refine BV.cInt ?_) | (with_reducible refine BV.cStr ?_) | (with_reducible refine BV.cBl ?_) | (with_reducible refine BV.cNon ?_) | (with_reducible refine BV.cRaw ?_)
  | ((with_reducible refine BV.isiT2 ?h1 ?h2 ?_); (case h1 => decide +kernel); (case h2 => decide +kernel)) | ((with_reducible refine And.intro (show isPlainB _ = true from ?hz) ?_); (case hz => exact rfl)) | ((with_reducible refine BV.listVals ?hu ?_); (case hu => trivial))
  | (with_reducible refine BV.nil ?_) | (with_reducible refine BV.cons ?_) | (with_reducible refine BV.tup ?_) | (with_reducible refine BV.lst ?_) | (with_reducible refine BV.op ?_) | (with_reducible refine BV.un ?_) | (with_reducible refine BV.thn_ ?_) | (with_reducible refine BV.cb ?_)
  | (with_reducible refine BV.call ?_) | (with_reducible refine BV.callLo ?_) | (with_reducible refine BV.callW ?_) | (with_reducible refine BV.callLoW ?_) | (with_reducible refine BV.ifE ?_) | (with_reducible refine BV.andV ?_) | (with_reducible refine BV.orV ?_) | (with_reducible refine BV.notV ?_) | (with_reducible refine BV.chain ?_) | (with_reducible refine BV.sl ?_) | (with_reducible refine BV.noP ?_) | (with_reducible refine BV.part ?_) | (with_reducible refine BV.bm0S ?_) | (with_reducible refine BV.strJoin ?_)
  | (with_reducible refine BV.tB_ ?_) | (with_reducible refine BV.test ?_) | (with_reducible refine BV.and_ ?_) | (with_reducible refine BV.or_ ?_) | (with_reducible refine BV.not_ ?_) | (with_reducible refine BV.yes ?_)
  | (with_reducible refine BV.i0 ?_) | (with_reducible refine BV.i0b ?_) | (with_reducible refine BV.eqS ?_) | (with_reducible refine BV.eqI ?_) | (with_reducible refine BV.neS ?_) | (with_reducible refine BV.neI ?_) | (with_reducible refine BV.neB ?_)
  | ((with_reducible apply BV.ixT); exact rfl) | (with_reducible refine BV.ixT BV.at0' ?_) | ((with_reducible apply BV.ixL); exact rfl)
  | (with_reducible refine BV.lenL ?_) | (with_reducible refine BV.lenT ?_) | ((with_reducible apply BV.lenO); exact rfl)
  | (with_reducible refine BV.slT ?_) | (with_reducible refine BV.int1 ?_) | (with_reducible refine BV.tupOfL ?_) | (with_reducible refine BV.tupOfT ?_) | (with_reducible refine BV.listOfL ?_) | (with_reducible refine BV.listOfT ?_) | (with_reducible refine BV.min2 ?_)
  | ((with_reducible refine BV.isi ?hh ?hp ?_); (case hh => decide +kernel); (case hp => exact rfl)) | ((with_reducible refine BV.isN ?hp ?_); (case hp => exact rfl)) | ((with_reducible refine BV.notN ?hp ?_); (case hp => exact rfl))
  | (with_reducible refine BV.exBl ?_) | (with_reducible refine BV.exInt ?_) | (with_reducible refine BV.exLst ?_) | (with_reducible refine BV.exTup ?_) | (with_reducible refine BV.exStr ?_) | (with_reducible refine BV.exZip ?_)
  | (with_reducible refine RD.ifT ?_) | (with_reducible refine RD.ifF ?_) | (with_reducible refine RD.ifNT ?_) | (with_reducible refine RD.ifNF ?_)
  | ((with_reducible refine And.intro (show List.length _ ≤ sizeLine from ?hz) ?_); (case hz => exact Nat.le_of_ble_eq_true rfl)) | ((with_reducible refine And.intro (show List.length _ < sizeLine from ?hz) ?_); (case hz => exact Nat.le_of_ble_eq_true rfl))
  | ((with_reducible refine RD.ifDT ?hd ?_); (case hd => first | decide +kernel | exact rfl)) | ((with_reducible refine RD.ifDF ?hd ?_); (case hd => first | decide +kernel | exact rfl))
  | ((with_reducible refine BV.catT ?hz ?_); (case hz => exact Nat.le_of_ble_eq_true rfl)) | ((with_reducible refine BV.catL ?hz ?_); (case hz => exact Nat.le_of_ble_eq_true rfl))
  | (with_reducible refine BV.wlist ?_) | (with_reducible refine BV.wtup ?_) | (with_reducible refine BV.wstr ?_) | (with_reducible refine BV.wrng1 ?_) | (with_reducible refine BV.wrng2 ?_) | (with_reducible refine BV.wzip ?_) | (with_reducible refine BV.wenum ?_)
  | (with_reducible refine BV.lcNil ?_) | (with_reducible refine BV.lcCons ?_) | (with_reducible refine BV.forNil ?_) | (with_reducible refine BV.forCons ?_) | (with_reducible refine BV.joined ?_) | (with_reducible refine BV.jsCons ?_) | (with_reducible refine BV.jsNil ?_) | (with_reducible refine BV.fmtS ?_) | (with_reducible refine BV.str2S ?_) | (with_reducible refine BV.neg1 ?_) | (with_reducible refine BV.ofN (BV.dNew ?_))
  | (with_reducible refine BV.gname ?_) | (with_reducible refine BV.gnil ?_) | (with_reducible refine BV.gcons ?_) | ((with_reducible apply BV.gtup); exact rfl)
  | ((with_reducible refine BV.vname ?hh ?_); (case hh => decide)) | (with_reducible refine BV.vnil ?_) | (with_reducible refine BV.vcons ?_) | ((with_reducible apply BV.vtup); exact rfl)
  | (with_reducible refine BV.dget ?_) | (with_reducible refine BV.din ?_) | (with_reducible refine BV.dnotin ?_))
local macro_rules | `(tactic| walk_at "bv") => `(tactic| repeat walk_at "bv1")

theorem sc__has_few_parts : FnScope ["value", "seen", "left", "part"] ["value"] (defScope (topS 8)) := ⟨rfl, rfl, rfl, by decide +kernel, rfl, by decide +kernel, by decide +kernel⟩
theorem ok_few (T : TxtE K mg) {f : Addr} {fd : FuncData} (F : Fun K "_has_few_parts" "_has_few_parts" (topS 8) f fd) : FnOk P w K mg base CX0 1 f fd ["value"] (SpB G3 K WFew) := by
  refine F.ok sc__has_few_parts (fun vs H Q E h => spLen (fun bs R hW => by obtain ⟨x, n, rfl, _⟩ := hW; rfl) h) (fun cdv A outer s H vs Q E hr h => ?_)
  obtain ⟨vMOST_PARTS, eM, rM⟩ := T.g_MOST_PARTS
  refine ⟨_, (pss_cons (ps_set (i := 1) sc__has_few_parts.nd rfl (Or.inl rfl) pe_int)
      (pss_cons (ps_set (i := 2) sc__has_few_parts.nd rfl (Or.inl rfl) (pe_lst (pa_cons (pv 0) pa_nil)))
      (pss_cons (ps_while PassesOwn.never ((pw_and (pt_truth (pv 2) (fun _ => rfl)) (pw_and1 (pt_cmpR op_le (pv 1) (pe_gc (by rfl) T.g_MOST_PARTS) (nomark _))))).pt (pss_cons (ps_set (i := 3) sc__has_few_parts.nd rfl (Or.inl rfl) (pe_bm0 PySem.F.plainAttrs_list PySem.F.slot_list_pop PySem.F.type_list_pop mt_pop (pv 2)))
      (pss_cons (ps_aug (i := 1) sc__has_few_parts.nd rfl (Or.inl rfl) pe_int ip_add)
      (pss_one (ps_if (pt_val (pe_callB call_isi (by rfl) T.b_isinstance (by decide +kernel) (pa_cons (pv 3) (pa_cons (pe_bltn (v := .ty "dict") (by rfl) T.b_dict (by decide +kernel) rfl) pa_nil)))) (pss_one (ps_expr (pe_bm PySem.F.plainAttrs_list PySem.F.slot_list_extend PySem.F.type_list_extend mt_extend (pv 2) (pa_cons (G7.pe_listVals rfl (by rfl) T.b_list (pv 3)) pa_nil)))) (pss_one (ps_if (pt_val (pe_callB call_isiT (by rfl) T.b_isinstance (by decide +kernel) (pa_cons (pv 3) (pa_cons (pe_tup (pa_cons (pe_bltn (v := .ty "list") (by rfl) T.b_list (by decide +kernel) rfl) (pa_cons (pe_bltn (v := .ty "tuple") (by rfl) T.b_tuple (by decide +kernel) rfl) pa_nil))) pa_nil)))) (pss_one (ps_expr (pe_bm PySem.F.plainAttrs_list PySem.F.slot_list_extend PySem.F.type_list_extend mt_extend (pv 2) (pa_cons (pe_callTy call_list_of (by rfl) T.b_list (by decide +kernel) (pa_cons (pv 3) pa_nil)) pa_nil)))) pss_nil)))))))
      (pss_one (ps_ret (pe_cmpR op_le (pv 1) (pe_gc (by rfl) T.g_MOST_PARTS) (nomark _))))))), ?_⟩
  refine body h _ fun bs R hW hl => ?_
  obtain ⟨x, n, rfl, hc, hz, hq⟩ := hW
  change bwS G3 K _ [.sh (x), .no, .no, .no] _
  try dsimp only [cxOf, Cx.nox]
  have lM := sizeLine_eq
  refine BV.seq (BV.asg (BV.cInt ?_))
  refine BV.seq (BV.asgN (BV.lstN ?_))
  walk_at "bv"
  refine BV.while_ (fun m Γ' => ∃ (ds : List B) (seen : Nat) (c : Cell), Γ' = [.sh x, .sh (.int seen), .ow (.lst ds), c] ∧ cpsB n ds = true ∧ seen + szsB ds = szB x ∧ m = szsB ds) (szB x) ⟨[x], 0, _, rfl, by simp [cpsB, hc], by simp [szsB], by simp [szsB]⟩ fun m Γ' hI => ?_
  obtain ⟨ds, seen, c, rfl, hds, hsum, rfl⟩ := hI
  walk_at "bv"
  rcases List.eq_nil_or_concat ds with rfl | ⟨ds', d, rfl⟩
  · walk_at "bv"
    have e : seen = szB x := by simpa [szsB] using hsum
    rw [decide_eq_true (show (seen : Int) ≤ 100000 by omega)]
    exact hq
  · rw [List.concat_eq_append] at hds hsum ⊢
    rw [cps_app, Bool.and_eq_true] at hds
    rw [szs_app] at hsum ⊢
    have hd : cpB n d = true := by simpa [cpsB] using hds.2
    have e1 : szsB [d] = szB d := by simp [szsB]
    rw [e1] at hsum ⊢
    have := szB_pos d
    have hne : (ds' ++ [d]).isEmpty = false := by cases ds' <;> rfl
    have hp := cp_plain hd
    walk_at "bv"
    rw [hne]
    walk_at "bv"
    rw [decide_eq_true (show (seen : Int) ≤ 100000 by omega)]
    walk_at "bv"
    have up : ∀ (es : List B) (c : Cell), cpsB n es = true → (seen + 1) + szsB es = szB x → szsB es < szsB ds' + szB d → ∃ m', m' < szsB ds' + szB d ∧ ∃ (ds : List B) (seen' : Nat) (c' : Cell), [Cell.sh x, .sh (.int ((seen : Int) + 1)), .ow (.lst es), c] = [.sh x, .sh (.int seen'), .ow (.lst ds), c'] ∧ cpsB n ds = true ∧ seen' + szsB ds = szB x ∧ m' = szsB ds := fun es c h1 h2 h3 => ⟨_, h3, es, seen + 1, c, rfl, h1, h2, rfl⟩
    dsimp only [List.set] at up ⊢
    have sub : ∀ (es : List B), cpsB n es = true → szB d = 1 + szsB es → ds'.length + es.length ≤ sizeLine ∧ ∃ m', m' < szsB ds' + szB d ∧ ∃ (ds : List B) (seen' : Nat) (c' : Cell), [Cell.sh x, .sh (.int ((seen : Int) + 1)), .ow (.lst (ds' ++ es)), .sh d] = [.sh x, .sh (.int seen'), .ow (.lst ds), c'] ∧ cpsB n ds = true ∧ seen' + szsB ds = szB x ∧ m' = szsB ds := fun es h1 h2 => by
      have l1 := szs_len (xs := ds')
      have l2 := szs_len (xs := es)
      refine ⟨by omega, up _ _ (by rw [cps_app, hds.1, h1]; rfl) (by rw [szs_app]; omega) (by rw [szs_app]; omega)⟩
    cases d with
    | src => cases hp
    | raw _ => cases hp
    | xc _ _ _ _ => cases hp
    | tup es =>
      have h1 : cpsB n es = true := by
        cases n with
        | zero => simp [cpB] at hd
        | succ n => simp [cpB] at hd; exact cps_up hd
      walk_at "bv"
      exact sub es h1 (by simp [szB])
    | lst es =>
      have h1 : cpsB n es = true := by
        cases n with
        | zero => simp [cpB] at hd
        | succ n => simp [cpB] at hd; exact cps_up hd
      walk_at "bv"
      exact sub es h1 (by simp [szB])
    | dct ks es =>
      have h1 : ks = [] ∧ es = [] := by
        simp [cpB] at hd
        exact hd.2
      obtain ⟨rfl, rfl⟩ := h1
      walk_at "bv"
      refine ⟨_, _, rfl, ?_⟩
      walk_at "bv"
      exact sub [] (by rw [cpsB]) (by simp [szB, szsB])
    | _ =>
      walk_at "bv"
      exact up _ _ hds.1 (by simp [szB] at hsum; omega) (by omega)
theorem sc__copy : FnScope ["value", "part", "key"] ["value"] (defScope (topS 7)) := ⟨rfl, rfl, rfl, by decide +kernel, rfl, by decide +kernel, by decide +kernel⟩
theorem ok_copy (T : TxtE K mg) {n : Nat} (c__copy : Cal P w K mg base (n + 1) "_copy" (SpB G3 K (WCopy n)) []) {f : Addr} {fd : FuncData} (F : Fun K "_copy" "_copy" (topS 7) f fd) : FnOk P w K mg base CX0 (n + 2) f fd ["value"] (SpB G3 K (WCopy (n + 1))) := by
  refine F.ok sc__copy (fun vs H Q E h => spLen (fun bs R hW => by obtain ⟨x, rfl, _⟩ := hW; rfl) h) (fun cdv A outer s H vs Q E hr h => ?_)
  refine ⟨_, (pss_cons (ps_if (pt_val (pe_callB call_isi (by rfl) T.b_isinstance (by decide +kernel) (pa_cons (pv 0) (pa_cons (pe_bltn (v := .ty "list") (by rfl) T.b_list (by decide +kernel) rfl) pa_nil)))) (pss_one (ps_ret (pe_lc (own := [("part", 1)]) (tt := tYes) rfl sc__copy.nd (pi_list (pv 0)) (blkOk_by (N := ["value", "part", "key"]) (sc := defScope (topS 7)) (by decide +kernel)) (fun _ _ _ _ _ => (pg_name (i := 1) sc__copy.nd rfl (Or.inl rfl))) (fun _ _ _ _ _ => pts_nil) (fun _ _ _ _ _ => (pe_c c__copy hr (by omega) (by rfl) (pa_cons (pv 1) pa_nil)))))) pss_nil)
      (pss_cons (ps_if (pt_val (pe_callB call_isi (by rfl) T.b_isinstance (by decide +kernel) (pa_cons (pv 0) (pa_cons (pe_bltn (v := .ty "tuple") (by rfl) T.b_tuple (by decide +kernel) rfl) pa_nil)))) (pss_one (ps_ret (pe_tupleOf (by rfl) T.b_tuple (pe_lc (own := [("part", 1)]) (tt := tYes) rfl sc__copy.nd (pi_tup (pv 0)) (blkOk_by (N := ["value", "part", "key"]) (sc := defScope (topS 7)) (by decide +kernel)) (fun _ _ _ _ _ => (pg_name (i := 1) sc__copy.nd rfl (Or.inl rfl))) (fun _ _ _ _ _ => pts_nil) (fun _ _ _ _ _ => (pe_c c__copy hr (by omega) (by rfl) (pa_cons (pv 1) pa_nil))))))) pss_nil)
      (pss_cons (ps_if (pt_val (pe_callB call_isi (by rfl) T.b_isinstance (by decide +kernel) (pa_cons (pv 0) (pa_cons (pe_bltn (v := .ty "dict") (by rfl) T.b_dict (by decide +kernel) rfl) pa_nil)))) (pss_one (ps_ret (pe_lock (pe_dc (own := [("key", 2), ("part", 1)]) (g := (gTup K 2 (gCons (gName 2) (gCons (gName 1) gNil)))) (tt := tYes) rfl sc__copy.nd (pi_items (pv 0)) (blkOk_by (N := ["value", "part", "key"]) (sc := defScope (topS 7)) (by decide +kernel)) (fun _ _ _ _ _ => (pg_tup rfl (pgs_cons (pg_name (i := 2) sc__copy.nd rfl (Or.inl rfl)) (pgs_cons (pg_name (i := 1) sc__copy.nd rfl (Or.inl rfl)) pgs_nil)))) (fun _ _ _ _ _ => pts_nil) (fun _ _ _ _ _ => (pv 2)) (fun _ _ _ _ _ => (pe_c c__copy hr (by omega) (by rfl) (pa_cons (pv 1) pa_nil))))))) pss_nil)
      (pss_one (ps_ret (pv 0)))))), ?_⟩
  refine body h _ fun bs R hW hl => ?_
  obtain ⟨x, rfl, hc, hz, hq⟩ := hW
  change bwS G3 K _ [.sh (x), .no, .no] _
  try dsimp only [cxOf, Cx.nox]
  have lM := sizeLine_eq
  have hp := cp_plain hc
  cases x with
  | src => cases hp
  | raw _ => cases hp
  | xc _ _ _ _ => cases hp
  | tup es =>
    have h1 : cpsB n es = true := by simpa [cpB] using hc
    have l1 := szs_len (xs := es)
    have hz' : szsB es ≤ 100000 := by simp [szB] at hz; omega
    walk_at "bv"
    refine ofN (lcMap (fun d => d) ?_)
    walk_at "bv"
    refine ⟨by omega, fun k d hd => ?_, ?_⟩
    · walk_at "bv"
      exact ⟨d, rfl, cps_at h1 hd, by have := szs_at hd; omega, rfl⟩
    · rw [List.map_id']
      walk_at "bv"
      exact hq
  | lst es =>
    have h1 : cpsB n es = true := by simpa [cpB] using hc
    have l1 := szs_len (xs := es)
    have hz' : szsB es ≤ 100000 := by simp [szB] at hz; omega
    walk_at "bv"
    refine ofN (lcMap (fun d => d) ?_)
    walk_at "bv"
    refine ⟨by omega, fun k d hd => ?_, ?_⟩
    · walk_at "bv"
      exact ⟨d, rfl, cps_at h1 hd, by have := szs_at hd; omega, rfl⟩
    · rw [List.map_id']
      exact hq
  | dct ks es =>
    have h1 : ks = [] ∧ es = [] := by
      simp [cpB] at hc
      exact hc
    obtain ⟨rfl, rfl⟩ := h1
    walk_at "bv"
    refine dcItems trivial rfl ⟨fun k kk dd => kk = [] ∧ dd = [], ⟨rfl, rfl⟩, fun k d kk dd hk _ => (by simp [itemsB] at hk), fun kk dd h => ?_⟩
    obtain ⟨rfl, rfl⟩ := h
    exact hq
  | _ =>
    walk_at "bv"
    exact hq
theorem copies {f : Addr} {fd : FuncData} (T : TxtE K mg) (F : Fun K "_copy" "_copy" (topS 7) f fd) (C : ∀ k sp, FnOk P w K mg base CX0 k f fd ["value"] sp → Cal P w K mg base k "_copy" sp []) : ∀ n : Nat, Cal P w K mg base (n + 1) "_copy" (SpB G3 K (WCopy n)) []
  | 0 => C _ _ (F.ok sc__copy (fun vs H Q E h => spLen (fun bs R hW => by obtain ⟨x, rfl, _⟩ := hW; rfl) h) (fun cdv A outer s H vs Q E hr h => by
    obtain ⟨_, _, _, _, _, _, _, _, ⟨x, _, z, _⟩, _⟩ := h
    cases x <;> simp [cpB] at z))
  | n + 1 => C _ _ (ok_copy T (copies T F C n) F)
def WCopied (bs : List B) (R : B → Prop) : Prop := ∃ x, bs = [x] ∧ cpB 12 x = true ∧ szB x ≤ 100000 ∧ R x
theorem sc_copied : FnScope ["value"] ["value"] (defScope (topS 6)) := ⟨rfl, rfl, rfl, by decide +kernel, rfl, by decide +kernel, by decide +kernel⟩
theorem ok_copied (T : TxtE K mg) (c__copy : Cal P w K mg base 13 "_copy" (SpB G3 K (WCopy 12)) []) (c__has_few_parts : Cal P w K mg base 1 "_has_few_parts" (SpB G3 K WFew) []) {f : Addr} {fd : FuncData} (F : Fun K "copied" "copied" (topS 6) f fd) : FnOk P w K mg base CX0 14 f fd ["value"] (SpB G3 K WCopied) := by
  refine F.ok sc_copied (fun vs H Q E h => spLen (fun bs R hW => by obtain ⟨x, rfl, _⟩ := hW; rfl) h) (fun cdv A outer s H vs Q E hr h => ?_)
  refine ⟨_, (pss_one (ps_ret (pe_ifExp (pt_val (pe_c c__has_few_parts hr (by omega) (by rfl) (pa_cons (pv 0) pa_nil))) (pe_c c__copy hr (by omega) (by rfl) (pa_cons (pv 0) pa_nil)) (pv 0)))), ?_⟩
  refine body h _ fun bs R hW hl => ?_
  obtain ⟨x, rfl, hc, hz, hq⟩ := hW
  change bwS G3 K _ [.sh (x)] _
  try dsimp only [cxOf, Cx.nox]
  walk_at "bv"
  refine ⟨x, 12, rfl, hc, hz, ?_⟩
  walk_at "bv"
  exact ⟨x, rfl, hc, hz, hq⟩
/-! ### an error's __init__ -/
def CpOk (b : B) : Prop := cpB 12 b = true ∧ szB b ≤ 100000
abbrev stBE : Stmt := (inClass (topS 12) 0)
theorem scBE : G1.SScope ["self", "event"] ["self", "event"] (defScope stBE) := ⟨rfl, rfl, rfl, by decide +kernel, rfl, by decide +kernel, by decide +kernel, by decide +kernel, by decide +kernel⟩
theorem ok_BE (T : TxtE K mg) (c_copied : Cal P w K mg base 14 "copied" (SpB G3 K WCopied) []) {C fI cc cda : Addr} (X : OexC K C) (hno : PySem.W.findIn K (.ref C) "event" = some none) {kV doc pm ct : Value} {an : Option Addr}
    (S : G1.SupC K P C fI cc cda (PySem.W.ksFn "__init__" "BadEvent.__init__" (defArgs stBE) (defBody stBE) (defScope stBE) .none kV doc pm an (.ref cda) ct cc)) (hcd : PySem.W.codeIn K (.ref cda) "BadEvent.__init__" = true) :
    FnOk P w K mg base CX0 15 fI (PySem.W.ksFn "__init__" "BadEvent.__init__" (defArgs stBE) (defBody stBE) (defScope stBE) .none kV doc pm an (.ref cda) ct cc) ["self", "event"] (SpI G3 K C "event" CpOk) := by
  refine G1.fn_ofS (ps := ["event"]) (sn := "self") S hcd scBE rfl rfl T.b_super rfl rfl (fun L => rfl) (fun L => rfl) (fun L => rfl) (fun vs H Q E h => ?_) (fun vs H Q E h => ?_) (fun A outer s H vs Q E hr h => ?_)
  · obtain ⟨Z, o, a, b, v, _, _, _, rfl, _⟩ := h
    rfl
  · obtain ⟨Z, o, a, b, v, _, _, _, rfl, h, _⟩ := h
    exact ⟨a, _, rfl, h⟩
  obtain ⟨Z, o, a, b, v, hU, hD, hz, rfl, ha, nz, rb, ok, q⟩ := h
  refine ⟨_, pss_one (ps_ost (pv 0) (pe_c c_copied hr (by omega) (by rfl) (pa_cons (pv 1) pa_nil))), ?_⟩
  have na : ¬ BV.isS o a := fun ⟨cl, z⟩ => nz (hD a cl z).2.1
  refine RD.call (RD.cons (RD.var rfl (RD.nil ⟨Z, o, [b], fun x => x = b, hU, hD, hz, rps_one rb, ⟨b, rfl, ok.1, ok.2, rfl⟩, fun b' v' H1 e k1 d1 r1 => ?_⟩)))
  subst e
  refine RD.var rfl ⟨a, C, rfl, X, hno, .inl ⟨k1 _ _ na ha, fun dx hdx hne => ?_⟩⟩
  have hH : H dx = none := by
    cases e : H dx with
    | none => rfl
    | some u =>
      by_cases hs : BV.isS o dx
      · obtain ⟨cl, hs⟩ := hs
        exact absurd hdx (G3.st (d1 dx cl hs))
      · rw [k1 dx u hs e] at hdx
        cases hdx
  have a1 := k1 _ _ na ha
  have dat : ∀ c u, ¬ Z c → datO u = true → H1 c = some u → upd (upd H1 dx (exd dx [("event", v')])) a (exo a C (some dx)) c = some u := fun c u _ hu hc => by
    have c1 : c ≠ a := fun z => by rw [z, a1] at hc; cases hc; cases hu
    have c2 : c ≠ dx := fun z => by rw [z, hdx] at hc; cases hc
    rw [upd_ne c1, upd_ne c2]
    exact hc
  refine q v' _ dx (fun c u hc hs hu => ?_) (fun st cl e => ?_) hH upd_same ?_ (r1.offD dat)
  · rw [upd_ne hc, upd_ne (ne_of_none (k1 c u hs hu) hdx)]
    exact k1 c u hs hu
  · have hst := d1 st cl e
    have hs1 := G3.st hst
    obtain ⟨ys, hc1⟩ := G3.cl hst
    have n1 : st ≠ a := fun z => na ⟨cl, by rw [← z]; exact e⟩
    have n2 : cl ≠ a := fun z => by rw [z, a1] at hc1; cases hc1
    have n3 : st ≠ dx := fun z => hs1 (by rw [z]; exact hdx)
    have n4 : cl ≠ dx := fun z => by rw [z, hdx] at hc1; cases hc1
    exact G3.off hst (by rw [upd_ne n1, upd_ne n3]) (by rw [upd_ne n2, upd_ne n4])
  · rw [upd_ne hne]
    exact upd_same
end
end SF

set_option Elab.async false
set_option linter.all false
set_option maxRecDepth 100000
set_option maxHeartbeats 4000000
/-! events, by value -/
namespace SF
open PySem PySem.Spec PyProof.Rows L2 G0 BV
open C8 (Cal Mak Met pe_c pe_mk pe_mt pe_mt0 pe_gc)
mutual
/-- data without dicts, of nesting below n, of short texts -/
def smB : Nat → B → Bool
  | n, .non => decide (0 < n)
  | n, .bl _ => decide (0 < n)
  | n, .int _ => decide (0 < n)
  | n, .str z => decide (0 < n) && (decide (z.length ≤ 1000) && z.cps.all (· < 0x110000))
  | n, .tup ds => decide (0 < n) && smsB (n - 1) ds
  | n, .lst ds => decide (0 < n) && smsB (n - 1) ds
  | _, _ => false
def smsB : Nat → List B → Bool
  | _, [] => true
  | n, d :: ds => smB n d && smsB n ds
end
mutual
theorem sm_can : ∀ {n : Nat} {x : B}, smB n x = true → (py x).canLay0 = true ∧ (py x).depth ≤ n
  | n, .non, h => by simp [smB] at h; simp [py, PyData.canLay0, PyData.depth]
  | n, .bl _, h => by simp [smB] at h; simp [py, PyData.canLay0, PyData.depth]
  | n, .int _, h => by simp [smB] at h; simp [py, PyData.canLay0, PyData.depth]
  | n, .str z, h => by
    rw [smB, Bool.and_eq_true, Bool.and_eq_true] at h
    refine ⟨?_, by simp [py, PyData.depth]⟩
    rw [py, PyData.canLay0]
    exact h.2.2
  | 0, .tup ds, h => by simp [smB] at h
  | 0, .lst ds, h => by simp [smB] at h
  | n + 1, .tup ds, h => by
    have h1 : smsB n ds = true := by simpa [smB] using h
    have := sms_can h1
    rw [py, PyData.canLay0, PyData.depth]
    exact ⟨this.1, by omega⟩
  | n + 1, .lst ds, h => by
    have h1 : smsB n ds = true := by simpa [smB] using h
    have := sms_can h1
    rw [py, PyData.canLay0, PyData.depth]
    exact ⟨this.1, by omega⟩
  | n, .dct _ _, h => by simp [smB] at h
  | n, .src, h => by simp [smB] at h
  | n, .raw _, h => by simp [smB] at h
  | n, .xc _ _ _ _, h => by simp [smB] at h
theorem sms_can : ∀ {n : Nat} {ds : List B}, smsB n ds = true → PyData.canLayAll0 (pys ds) = true ∧ PyData.depthAll (pys ds) ≤ n
  | n, [], h => by
    rw [pys, PyData.canLayAll0, PyData.depthAll]
    exact ⟨rfl, Nat.zero_le _⟩
  | n, d :: ds, h => by
    rw [smsB, Bool.and_eq_true] at h
    have h1 := sm_can h.1
    have h2 := sms_can h.2
    rw [pys, PyData.canLayAll0, PyData.depthAll, h1.1, h2.1]
    exact ⟨rfl, by omega⟩
end
mutual
theorem sm_up : ∀ {n : Nat} {x : B}, smB n x = true → smB (n + 1) x = true
  | n, .non, h => by simp [smB]
  | n, .bl _, h => by simp [smB]
  | n, .int _, h => by simp [smB]
  | n, .str z, h => by
    rw [smB, Bool.and_eq_true] at h ⊢
    exact ⟨decide_eq_true (Nat.succ_pos n), h.2⟩
  | 0, .tup ds, h => by simp [smB] at h
  | 0, .lst ds, h => by simp [smB] at h
  | n + 1, .tup ds, h => by
    have h1 : smsB n ds = true := by simpa [smB] using h
    simpa [smB] using sms_up h1
  | n + 1, .lst ds, h => by
    have h1 : smsB n ds = true := by simpa [smB] using h
    simpa [smB] using sms_up h1
  | n, .dct _ _, h => by simp [smB] at h
  | n, .src, h => by simp [smB] at h
  | n, .raw _, h => by simp [smB] at h
  | n, .xc _ _ _ _, h => by simp [smB] at h
theorem sms_up : ∀ {n : Nat} {ds : List B}, smsB n ds = true → smsB (n + 1) ds = true
  | n, [], h => by rw [smsB]
  | n, d :: ds, h => by
    rw [smsB, Bool.and_eq_true] at h ⊢
    exact ⟨sm_up h.1, sms_up h.2⟩
end
theorem sm_shaped {n : Nat} {x : B} (h : smB n x = true) (hn : n ≤ 64) : SeqAt.shaped (py x) = true := by
  obtain ⟨h1, h2⟩ := sm_can h
  unfold SeqAt.shaped
  rw [h1, decide_eq_true (show (py x).depth ≤ 64 by omega)]
  rfl
theorem sm_plain {n : Nat} {x : B} (h : smB n x = true) : isPlainB x = true := by
  cases x <;> simp [smB, isPlainB] at h ⊢
theorem sm_short {n : Nat} {x : B} (h : smB n x = true) : shortB x = true := by
  cases x with
  | str z =>
    rw [smB, Bool.and_eq_true, Bool.and_eq_true] at h
    have := of_decide_eq_true h.2.1
    exact decide_eq_true (by omega)
  | _ => rfl
theorem sm_tup {n : Nat} {ds : List B} (h : smB n (.tup ds) = true) : smsB (n - 1) ds = true := by
  rw [smB, Bool.and_eq_true] at h
  exact h.2
theorem sms_at {n : Nat} : ∀ {xs : List B} {i : Nat} {d : B}, smsB n xs = true → xs[i]? = some d → smB n d = true
  | [], i, d, _, h => by simp at h
  | x :: xs, 0, d, h, e => by
    rw [smsB, Bool.and_eq_true] at h
    rw [← Option.some.inj e]
    exact h.1
  | x :: xs, i + 1, d, h, e => by
    rw [smsB, Bool.and_eq_true] at h
    exact sms_at h.2 (by simpa using e)
/-- the text z -/
def isStrB (y : B) (z : Str) : Bool := match y with
  | .str w => decide (w = z)
  | _ => false
theorem eqv_str {y : B} {z : Str} : PyData.eqv (py y) (py (.str z)) = isStrB y z := by
  cases y with
  | str w =>
    rw [py, py, PyData.eqv]
    show (w == z) = decide (w = z)
    by_cases e : w = z
    · subst e; simp
    · rw [decide_eq_false e]
      exact beq_eq_false_iff_ne.mpr e
  | _ => simp [py, PyData.eqv, isStrB]
/-- a value of an event -/
def isValB : B → Bool
  | .tup [y] => isStrB y "none" || isStrB y "me"
  | .tup [y, z] => if isStrB y "word" = true then nameB z else if isStrB y "other" = true then isNumB z else false
  | _ => false
theorem val_in {ds : List B} (h : ∀ y z, ds = [y, z] → isStrB y "word" = false ∧ isStrB y "other" = false) : ((pys [.tup [.str "none"], .tup [.str "me"]]).any fun z => PyData.eqv z (py (.tup ds))) = isValB (.tup ds) := by
  have e1 : ∀ w : Str, PyData.eqv (py (.tup [.str w])) (py (.tup ds)) = match ds with
    | [y] => isStrB y w
    | _ => false := fun w => by
    match ds with
    | [] => simp [py, pys, PyData.eqv, PyData.eqvAll]
    | [y] =>
      have e2 : PyData.eqv (py (.str w)) (py y) = isStrB y w := by
        cases y with
        | str v =>
          rw [py, py, PyData.eqv]
          show (w == v) = decide (v = w)
          by_cases e : v = w
          · subst e; simp
          · rw [decide_eq_false e]
            exact beq_eq_false_iff_ne.mpr (Ne.symm e)
        | _ => simp [py, PyData.eqv, isStrB]
      rw [py, py, PyData.eqv, pys, pys, pys, pys, PyData.eqvAll, PyData.eqvAll, e2, Bool.and_true]
    | y :: z :: r => rw [py, py, PyData.eqv, pys, pys, pys, pys, PyData.eqvAll, PyData.eqvAll, Bool.and_false]
  rw [pys, pys, pys, List.any_cons, List.any_cons, List.any_nil, e1, e1, Bool.or_false]
  match ds with
  | [] => rfl
  | [y] => rfl
  | [y, z] =>
    obtain ⟨h1, h2⟩ := h y z rfl
    rw [isValB, h1, h2]
    rfl
  | _ :: _ :: _ :: _ => rfl
theorem r65 {k : Nat} {A : Around} (r : Room k A) : A.units + 65 < cLine := by
  have := r.un
  omega
def WVal (bs : List B) (R : B → Prop) : Prop := ∃ x, bs = [x] ∧ smB 12 x = true ∧ R (.bl (isValB x))
section
variable {P : Program} {w : World} {K : PySem.W.Frag} {mg : Str → Option Value} {base : Heap}
set_option Elab.async false
set_option linter.all false
set_option maxRecDepth 100000
set_option maxHeartbeats 4000000
local macro_rules | `(tactic| walk_at "bv1") => `(tactic| first
  | (with_reducible refine BV.seq ?_) | (with_reducible refine BV.next ?_) | (with_reducible refine BV.ifS ?_) | ((with_reducible apply BV.retO); exact rfl) | (with_reducible refine BV.ret ?_) | (with_reducible refine BV.retN ?_) | ((with_reducible apply BV.asgPop); exact rfl) | (with_reducible refine BV.asgL0 ?_) | (with_reducible refine BV.asgD0 ?_) | (with_reducible refine BV.asg ?_) | (with_reducible refine BV.asgG ?_)
  | ((with_reducible apply BV.append); exact rfl) | ((with_reducible apply BV.extend); exact rfl) | ((with_reducible apply BV.augI); exact rfl) | ((with_reducible apply BV.truO); exact rfl) | (with_reducible refine BV.dropE ?_)
  | ((with_reducible apply BV.var); exact rfl) | (with_reducible refine BV.cInt ?_) | (with_reducible refine BV.cStr ?_) | (with_reducible refine BV.cBl ?_) | (with_reducible refine BV.cNon ?_) | (with_reducible refine BV.cRaw ?_)
  | ((with_reducible refine BV.isiT2 ?h1 ?h2 ?_); (case h1 => decide +kernel); (case h2 => decide +kernel)) | ((with_reducible refine And.intro (show isPlainB _ = true from ?hz) ?_); (case hz => exact rfl)) | ((with_reducible refine BV.listVals ?hu ?_); (case hu => trivial))
  | (with_reducible refine BV.nil ?_) | (with_reducible refine BV.cons ?_) | (with_reducible refine BV.tup ?_) | (with_reducible refine BV.lst ?_) | (with_reducible refine BV.op ?_) | (with_reducible refine BV.un ?_) | (with_reducible refine BV.thn_ ?_) | (with_reducible refine BV.cb ?_)
  | (with_reducible refine BV.call ?_) | (with_reducible refine BV.callLo ?_) | (with_reducible refine BV.callW ?_) | (with_reducible refine BV.callLoW ?_) | (with_reducible refine BV.ifE ?_) | (with_reducible refine BV.andV ?_) | (with_reducible refine BV.orV ?_) | (with_reducible refine BV.notV ?_) | (with_reducible refine BV.chain ?_) | (with_reducible refine BV.sl ?_) | (with_reducible refine BV.noP ?_) | (with_reducible refine BV.part ?_) | (with_reducible refine BV.bm0S ?_) | (with_reducible refine BV.strJoin ?_)
  | (with_reducible refine BV.tB_ ?_) | (with_reducible refine BV.test ?_) | (with_reducible refine BV.and_ ?_) | (with_reducible refine BV.or_ ?_) | (with_reducible refine BV.not_ ?_) | (with_reducible refine BV.yes ?_)
  | (with_reducible refine BV.i0 ?_) | (with_reducible refine BV.i0b ?_) | (with_reducible refine BV.eqS ?_) | (with_reducible refine BV.eqI ?_) | (with_reducible refine BV.neS ?_) | (with_reducible refine BV.neI ?_) | (with_reducible refine BV.neB ?_)
  | ((with_reducible apply BV.ixT); exact rfl) | (with_reducible refine BV.ixT BV.at0' ?_) | ((with_reducible apply BV.ixL); exact rfl)
  | (with_reducible refine BV.lenL ?_) | (with_reducible refine BV.lenT ?_) | ((with_reducible apply BV.lenO); exact rfl)
  | (with_reducible refine BV.slT ?_) | (with_reducible refine BV.int1 ?_) | (with_reducible refine BV.tupOfL ?_) | (with_reducible refine BV.tupOfT ?_) | (with_reducible refine BV.listOfL ?_) | (with_reducible refine BV.listOfT ?_) | (with_reducible refine BV.min2 ?_)
  | ((with_reducible refine BV.isi ?hh ?hp ?_); (case hh => decide +kernel); (case hp => exact rfl)) | ((with_reducible refine BV.isN ?hp ?_); (case hp => exact rfl)) | ((with_reducible refine BV.notN ?hp ?_); (case hp => exact rfl))
  | (with_reducible refine BV.exBl ?_) | (with_reducible refine BV.exInt ?_) | (with_reducible refine BV.exLst ?_) | (with_reducible refine BV.exTup ?_) | (with_reducible refine BV.exStr ?_) | (with_reducible refine BV.exZip ?_)
  | (with_reducible refine RD.ifT ?_) | (with_reducible refine RD.ifF ?_) | (with_reducible refine RD.ifNT ?_) | (with_reducible refine RD.ifNF ?_)
  | ((with_reducible refine And.intro (show List.length _ ≤ sizeLine from ?hz) ?_); (case hz => exact Nat.le_of_ble_eq_true rfl)) | ((with_reducible refine And.intro (show List.length _ < sizeLine from ?hz) ?_); (case hz => exact Nat.le_of_ble_eq_true rfl))
  | ((with_reducible refine RD.ifDT ?hd ?_); (case hd => first | decide +kernel | exact rfl)) | ((with_reducible refine RD.ifDF ?hd ?_); (case hd => first | decide +kernel | exact rfl))
  | ((with_reducible refine BV.catT ?hz ?_); (case hz => exact Nat.le_of_ble_eq_true rfl)) | ((with_reducible refine BV.catL ?hz ?_); (case hz => exact Nat.le_of_ble_eq_true rfl))
  | (with_reducible refine BV.wlist ?_) | (with_reducible refine BV.wtup ?_) | (with_reducible refine BV.wstr ?_) | (with_reducible refine BV.wrng1 ?_) | (with_reducible refine BV.wrng2 ?_) | (with_reducible refine BV.wzip ?_) | (with_reducible refine BV.wenum ?_)
  | (with_reducible refine BV.lcNil ?_) | (with_reducible refine BV.lcCons ?_) | (with_reducible refine BV.forNil ?_) | (with_reducible refine BV.forCons ?_) | (with_reducible refine BV.joined ?_) | (with_reducible refine BV.jsCons ?_) | (with_reducible refine BV.jsNil ?_) | (with_reducible refine BV.fmtS ?_) | (with_reducible refine BV.str2S ?_) | (with_reducible refine BV.neg1 ?_) | (with_reducible refine BV.ofN (BV.dNew ?_))
  | (with_reducible refine BV.gname ?_) | (with_reducible refine BV.gnil ?_) | (with_reducible refine BV.gcons ?_) | ((with_reducible apply BV.gtup); exact rfl)
  | ((with_reducible refine BV.vname ?hh ?_); (case hh => decide)) | (with_reducible refine BV.vnil ?_) | (with_reducible refine BV.vcons ?_) | ((with_reducible apply BV.vtup); exact rfl)
  | (with_reducible refine BV.dget ?_) | (with_reducible refine BV.din ?_) | (with_reducible refine BV.dnotin ?_))
local macro_rules | `(tactic| walk_at "bv") => `(tactic| repeat walk_at "bv1")

theorem sc__is_value : FnScope ["thing"] ["thing"] (defScope (topS 19)) := ⟨rfl, rfl, rfl, by decide +kernel, rfl, by decide +kernel, by decide +kernel⟩
theorem ok_isVal (T : TxtE K mg) (c_is_name : Cal P w K mg base 1 "is_name" (SpB G3.lo K WIsName) []) (c__is_number : Cal P w K mg base 2 "_is_number" (SpB G3.lo K WIsNum) []) {f : Addr} {fd : FuncData} (F : Fun K "_is_value" "_is_value" (topS 19) f fd) : FnOk P w K mg base CX0 3 f fd ["thing"] (SpB G3.lo K WVal) := by
  refine F.ok sc__is_value (fun vs H Q E h => spLen (fun bs R hW => by obtain ⟨x, rfl, _⟩ := hW; rfl) h) (fun cdv A outer s H vs Q E hr h => ?_)
  refine ⟨_, (pss_cons (ps_if (pt_not (pt_val (pe_callB call_isi (by rfl) T.b_isinstance (by decide +kernel) (pa_cons (pv 0) (pa_cons (pe_bltn (v := .ty "tuple") (by rfl) T.b_tuple (by decide +kernel) rfl) pa_nil))))) (pss_one (ps_ret pe_bl)) pss_nil)
      (pss_cons (ps_if ((pw_and (pt_cmpR op_eq (pe_callB call_lenQ (by rfl) T.b_len PySem.boot_len (pa_cons (pv 0) pa_nil)) pe_int (nomark _)) (pw_and1 (pt_cmpR (op_eqD hr.units) (pe_ix ix_tup (pv 0) pe_int (fun _ _ => rfl)) pe_str (nomark _))))).pt (pss_one (ps_ret (pe_c c_is_name hr (by decide) (by rfl) (pa_cons (pe_ix ix_tup (pv 0) pe_int (fun _ _ => rfl)) pa_nil)))) pss_nil)
      (pss_cons (ps_if ((pw_and (pt_cmpR op_eq (pe_callB call_lenQ (by rfl) T.b_len PySem.boot_len (pa_cons (pv 0) pa_nil)) pe_int (nomark _)) (pw_and1 (pt_cmpR (op_eqD hr.units) (pe_ix ix_tup (pv 0) pe_int (fun _ _ => rfl)) pe_str (nomark _))))).pt (pss_one (ps_ret (pe_c c__is_number hr (by decide) (by rfl) (pa_cons (pe_ix ix_tup (pv 0) pe_int (fun _ _ => rfl)) pa_nil)))) pss_nil)
      (pss_one (ps_ret (pe_cmpR (op_inDT (r65 hr)) (pv 0) (pe_tup (pa_cons (pe_tup (pa_cons pe_str pa_nil)) (pa_cons (pe_tup (pa_cons pe_str pa_nil)) pa_nil))) (by rfl))))))), ?_⟩
  refine body h _ fun bs R hW hl => ?_
  obtain ⟨x, rfl, hs, hq⟩ := hW
  change bwS G3.lo K _ [.sh (x)] _
  try dsimp only [cxOf, Cx.nox]
  have hp := sm_plain hs
  cases x with
  | tup ds =>
    have s1 := sm_tup hs
    have sh := sm_shaped hs (by decide)
    have hin : SeqAt.shaped (py (.tup [.tup [.str "none"], .tup [.str "me"]])) = true := by decide +kernel
    have nope : ∀ Γ0 : List Cell, Γ0 = [.sh (.tup ds)] → (∀ y z, ds = [y, z] → isStrB y "word" = false ∧ isStrB y "other" = false) → bwR2 G3.lo K (rInDT K) (.tup ds) (.tup [.tup [.str "none"], .tup [.str "me"]]) R := fun _ _ h2 => inDT sh hin (by rw [val_in h2]; exact hq)
    match ds, hs, s1, sh, hq, nope with
    | [y, z], hs, s1, sh, hq, nope =>
      have sy := sms_at (i := 0) s1 rfl
      have sz := sms_at (i := 1) s1 rfl
      have sw : SeqAt.shaped (py (.str "word")) = true := by decide +kernel
      have so : SeqAt.shaped (py (.str "other")) = true := by decide +kernel
      have yy := sm_shaped sy (by decide)
      walk_at "bv"
      refine eqD yy sw ?_
      rw [eqv_str]
      walk_at "bv"
      refine ite2 (fun h1 => ?_) (fun h1 => ?_)
      · walk_at "bv"
        refine ⟨z, rfl, sm_plain sz, sm_short sz, ?_⟩
        rw [isValB, if_pos h1] at hq
        exact hq
      · have h1' := eq_false_of_ne_true h1
        walk_at "bv"
        refine eqD yy so ?_
        rw [eqv_str]
        walk_at "bv"
        refine ite2 (fun h2 => ?_) (fun h2 => ?_)
        · walk_at "bv"
          refine ⟨z, rfl, sm_plain sz, ?_⟩
          rw [isValB, if_neg h1, if_pos h2] at hq
          exact hq
        · have h2' := eq_false_of_ne_true h2
          walk_at "bv"
          exact nope _ rfl fun a b e => by
            cases e
            exact ⟨h1', h2'⟩
    | [], hs, s1, sh, hq, nope =>
      walk_at "bv"
      exact nope _ rfl fun a b e => nomatch e
    | [y], hs, s1, sh, hq, nope =>
      walk_at "bv"
      exact nope _ rfl fun a b e => nomatch e
    | y :: z :: u :: r, hs, s1, sh, hq, nope =>
      have n2 : decide (((y :: z :: u :: r).length : Int) = 2) = false := decide_eq_false (by simp only [List.length_cons]; omega)
      walk_at "bv"
      try rw [n2]
      walk_at "bv"
      try rw [n2]
      walk_at "bv"
      exact nope _ rfl fun a b e => nomatch e
  | src => cases hp
  | raw _ => cases hp
  | xc _ _ _ _ => cases hp
  | _ =>
    walk_at "bv"
    exact hq
end
end SF

set_option Elab.async false
set_option linter.all false
set_option maxRecDepth 100000
set_option maxHeartbeats 4000000
/-! events, by value: is_event -/
namespace SF
open PySem PySem.Spec PyProof.Rows L2 G0 BV
open C8 (Cal Mak Met pe_c pe_mk pe_mt pe_mt0 pe_gc)
def partB (k : Str) (x : B) : Bool := if k = "number" then isNumB x else if k = "name" then nameB x else isValB x
def formsE : TabS := [("gives", ["value"]), ("throws", ["value"]), ("calls", ["number", "value", "value"]), ("asks", ["name", "value", "value"])]
def isEvB : B → Bool
  | .tup (.str k :: ps) => match formsE.lookup k with
    | none => false
    | some fs => decide (ps.length = fs.length) && (fs.zip ps).all fun q => partB q.1 q.2
  | _ => false
def pairF : B → B
  | .tup [.str k, x] => .bl (partB k x)
  | _ => .non
theorem pairs_at {xs ys : List B} {i : Nat} {d : B} (h : (pairs xs ys)[i]? = some d) : ∃ x y, xs[i]? = some x ∧ ys[i]? = some y ∧ d = .tup [x, y] := by
  unfold pairs at h
  rw [List.getElem?_map] at h
  cases e : (xs.zip ys)[i]? with
  | none => rw [e] at h; cases h
  | some q =>
    rw [e] at h
    obtain ⟨h1, h2⟩ := List.getElem?_zip_eq_some.mp e
    exact ⟨_, _, h1, h2, (Option.some.inj h).symm⟩
theorem pairs_map {fs : List Str} {ps : List B} : (pairs (fs.map B.str) ps).map pairF = ((fs.zip ps).map fun q => partB q.1 q.2).map B.bl := by
  induction fs generalizing ps with
  | nil => rfl
  | cons f fs ih =>
    cases ps with
    | nil => rfl
    | cons p ps =>
      have := ih (ps := ps)
      unfold pairs at this ⊢
      rw [List.map_cons, List.zip_cons_cons, List.zip_cons_cons, List.map_cons, List.map_cons, List.map_cons, List.map_cons, this]
      rfl
theorem pairs_len {xs ys : List B} : (pairs xs ys).length ≤ ys.length := by
  unfold pairs
  rw [List.length_map, List.length_zip]
  exact Nat.min_le_right _ _
def WPart (bs : List B) (R : B → Prop) : Prop := ∃ k x, bs = [.str k, x] ∧ smB 12 x = true ∧ R (.bl (partB k x))
def WIsEv (bs : List B) (R : B → Prop) : Prop := ∃ x, bs = [x] ∧ isPlainB x = true ∧ (∀ ds, x = .tup ds → smB 12 x = true ∧ ds.length ≤ 1000) ∧ R (.bl (isEvB x))
section
variable {P : Program} {w : World} {K : PySem.W.Frag} {mg : Str → Option Value} {base : Heap}
set_option Elab.async false
set_option linter.all false
set_option maxRecDepth 100000
set_option maxHeartbeats 4000000
local macro_rules | `(tactic| walk_at "bv1") => `(tactic| first
  | (with_reducible refine BV.seq ?_) | (with_reducible refine BV.next ?_) | (with_reducible refine BV.ifS ?_) | ((with_reducible apply BV.retO); exact rfl) | (with_reducible refine BV.ret ?_) | (with_reducible refine BV.retN ?_) | ((with_reducible apply BV.asgPop); exact rfl) | (with_reducible refine BV.asgL0 ?_) | (with_reducible refine BV.asgD0 ?_) | (with_reducible refine BV.asg ?_) | (with_reducible refine BV.asgG ?_)
  | ((with_reducible apply BV.append); exact rfl) | ((with_reducible apply BV.extend); exact rfl) | ((with_reducible apply BV.augI); exact rfl) | ((with_reducible apply BV.truO); exact rfl) | (with_reducible refine BV.dropE ?_)
  | ((with_reducible apply BV.var); exact rfl) | (with_reducible refine BV.cInt ?_) | (with_reducible refine BV.cStr ?_) | (with_reducible refine BV.cBl ?_) | (with_reducible refine BV.cNon ?_) | (with_reducible refine BV.cRaw ?_)
  | ((with_reducible refine BV.isiT2 ?h1 ?h2 ?_); (case h1 => decide +kernel); (case h2 => decide +kernel)) | ((with_reducible refine And.intro (show isPlainB _ = true from ?hz) ?_); (case hz => exact rfl)) | ((with_reducible refine BV.listVals ?hu ?_); (case hu => trivial))
  | (with_reducible refine BV.nil ?_) | (with_reducible refine BV.cons ?_) | (with_reducible refine BV.tup ?_) | (with_reducible refine BV.lst ?_) | (with_reducible refine BV.op ?_) | (with_reducible refine BV.un ?_) | (with_reducible refine BV.thn_ ?_) | (with_reducible refine BV.cb ?_)
  | (with_reducible refine BV.call ?_) | (with_reducible refine BV.callLo ?_) | (with_reducible refine BV.callW ?_) | (with_reducible refine BV.callLoW ?_) | (with_reducible refine BV.ifE ?_) | (with_reducible refine BV.andV ?_) | (with_reducible refine BV.orV ?_) | (with_reducible refine BV.notV ?_) | (with_reducible refine BV.chain ?_) | (with_reducible refine BV.sl ?_) | (with_reducible refine BV.noP ?_) | (with_reducible refine BV.part ?_) | (with_reducible refine BV.bm0S ?_) | (with_reducible refine BV.strJoin ?_)
  | (with_reducible refine BV.tB_ ?_) | (with_reducible refine BV.test ?_) | (with_reducible refine BV.and_ ?_) | (with_reducible refine BV.or_ ?_) | (with_reducible refine BV.not_ ?_) | (with_reducible refine BV.yes ?_)
  | (with_reducible refine BV.i0 ?_) | (with_reducible refine BV.i0b ?_) | (with_reducible refine BV.eqS ?_) | (with_reducible refine BV.eqI ?_) | (with_reducible refine BV.neS ?_) | (with_reducible refine BV.neI ?_) | (with_reducible refine BV.neB ?_)
  | ((with_reducible apply BV.ixT); exact rfl) | (with_reducible refine BV.ixT BV.at0' ?_) | ((with_reducible apply BV.ixL); exact rfl)
  | (with_reducible refine BV.lenL ?_) | (with_reducible refine BV.lenT ?_) | ((with_reducible apply BV.lenO); exact rfl)
  | (with_reducible refine BV.slT ?_) | (with_reducible refine BV.int1 ?_) | (with_reducible refine BV.tupOfL ?_) | (with_reducible refine BV.tupOfT ?_) | (with_reducible refine BV.listOfL ?_) | (with_reducible refine BV.listOfT ?_) | (with_reducible refine BV.min2 ?_)
  | ((with_reducible refine BV.isi ?hh ?hp ?_); (case hh => decide +kernel); (case hp => exact rfl)) | ((with_reducible refine BV.isN ?hp ?_); (case hp => exact rfl)) | ((with_reducible refine BV.notN ?hp ?_); (case hp => exact rfl))
  | (with_reducible refine BV.exBl ?_) | (with_reducible refine BV.exInt ?_) | (with_reducible refine BV.exLst ?_) | (with_reducible refine BV.exTup ?_) | (with_reducible refine BV.exStr ?_) | (with_reducible refine BV.exZip ?_)
  | (with_reducible refine RD.ifT ?_) | (with_reducible refine RD.ifF ?_) | (with_reducible refine RD.ifNT ?_) | (with_reducible refine RD.ifNF ?_)
  | ((with_reducible refine And.intro (show List.length _ ≤ sizeLine from ?hz) ?_); (case hz => exact Nat.le_of_ble_eq_true rfl)) | ((with_reducible refine And.intro (show List.length _ < sizeLine from ?hz) ?_); (case hz => exact Nat.le_of_ble_eq_true rfl))
  | ((with_reducible refine RD.ifDT ?hd ?_); (case hd => first | decide +kernel | exact rfl)) | ((with_reducible refine RD.ifDF ?hd ?_); (case hd => first | decide +kernel | exact rfl))
  | ((with_reducible refine BV.catT ?hz ?_); (case hz => exact Nat.le_of_ble_eq_true rfl)) | ((with_reducible refine BV.catL ?hz ?_); (case hz => exact Nat.le_of_ble_eq_true rfl))
  | (with_reducible refine BV.wlist ?_) | (with_reducible refine BV.wtup ?_) | (with_reducible refine BV.wstr ?_) | (with_reducible refine BV.wrng1 ?_) | (with_reducible refine BV.wrng2 ?_) | (with_reducible refine BV.wzip ?_) | (with_reducible refine BV.wenum ?_)
  | (with_reducible refine BV.lcNil ?_) | (with_reducible refine BV.lcCons ?_) | (with_reducible refine BV.forNil ?_) | (with_reducible refine BV.forCons ?_) | (with_reducible refine BV.joined ?_) | (with_reducible refine BV.jsCons ?_) | (with_reducible refine BV.jsNil ?_) | (with_reducible refine BV.fmtS ?_) | (with_reducible refine BV.str2S ?_) | (with_reducible refine BV.neg1 ?_) | (with_reducible refine BV.ofN (BV.dNew ?_))
  | (with_reducible refine BV.gname ?_) | (with_reducible refine BV.gnil ?_) | (with_reducible refine BV.gcons ?_) | ((with_reducible apply BV.gtup); exact rfl)
  | ((with_reducible refine BV.vname ?hh ?_); (case hh => decide)) | (with_reducible refine BV.vnil ?_) | (with_reducible refine BV.vcons ?_) | ((with_reducible apply BV.vtup); exact rfl)
  | (with_reducible refine BV.dget ?_) | (with_reducible refine BV.din ?_) | (with_reducible refine BV.dnotin ?_))
local macro_rules | `(tactic| walk_at "bv") => `(tactic| repeat walk_at "bv1")

theorem sc__is_part : FnScope ["kind", "part"] ["kind", "part"] (defScope (topS 18)) := ⟨rfl, rfl, rfl, by decide +kernel, rfl, by decide +kernel, by decide +kernel⟩
theorem ok_isPart (T : TxtE K mg) (c_is_name : Cal P w K mg base 1 "is_name" (SpB G3.lo K WIsName) []) (c__is_number : Cal P w K mg base 2 "_is_number" (SpB G3.lo K WIsNum) []) (c__is_value : Cal P w K mg base 3 "_is_value" (SpB G3.lo K WVal) []) {f : Addr} {fd : FuncData} (F : Fun K "_is_part" "_is_part" (topS 18) f fd) : FnOk P w K mg base CX0 4 f fd ["kind", "part"] (SpB G3.lo K WPart) := by
  refine F.ok sc__is_part (fun vs H Q E h => spLen (fun bs R hW => by obtain ⟨k, x, rfl, _⟩ := hW; rfl) h) (fun cdv A outer s H vs Q E hr h => ?_)
  refine ⟨_, (pss_cons (ps_if (pt_cmpR op_eq (pv 0) pe_str (nomark _)) (pss_one (ps_ret (pe_c c__is_number hr (by decide) (by rfl) (pa_cons (pv 1) pa_nil)))) pss_nil)
      (pss_one (ps_ret (pe_ifExp (pt_cmpR op_eq (pv 0) pe_str (nomark _)) (pe_c c_is_name hr (by decide) (by rfl) (pa_cons (pv 1) pa_nil)) (pe_c c__is_value hr (by decide) (by rfl) (pa_cons (pv 1) pa_nil)))))), ?_⟩
  refine body h _ fun bs R hW hl => ?_
  obtain ⟨k, x, rfl, hs, hq⟩ := hW
  change bwS G3.lo K _ [.sh (.str k), .sh (x)] _
  try dsimp only [cxOf, Cx.nox]
  walk_at "bv"
  refine ite2 (fun h1 => ?_) (fun h1 => ?_)
  · rw [partB, if_pos (of_decide_eq_true h1)] at hq
    walk_at "bv"
    exact ⟨x, rfl, sm_plain hs, hq⟩
  · rw [partB, if_neg (of_decide_eq_false (eq_false_of_ne_true h1))] at hq
    walk_at "bv"
    refine ite2 (fun h2 => ?_) (fun h2 => ?_)
    · rw [if_pos (of_decide_eq_true h2)] at hq
      walk_at "bv"
      exact ⟨x, rfl, sm_plain hs, sm_short hs, hq⟩
    · rw [if_neg (of_decide_eq_false (eq_false_of_ne_true h2))] at hq
      walk_at "bv"
      exact ⟨x, rfl, hs, hq⟩
theorem sc_is_event : FnScope ["thing", "form", "kind", "part"] ["thing"] (defScope (topS 17)) := ⟨rfl, rfl, rfl, by decide +kernel, rfl, by decide +kernel, by decide +kernel⟩
theorem ok_isEv (T : TxtE K mg) (FT : FTS K w mg "FORMS" formsE) (c__is_part : Cal P w K mg base 4 "_is_part" (SpB G3.lo K WPart) []) {f : Addr} {fd : FuncData} (F : Fun K "is_event" "is_event" (topS 17) f fd) : FnOk P w K mg base CX0 5 f fd ["thing"] (SpB G3.lo K WIsEv) := by
  refine F.ok sc_is_event (fun vs H Q E h => spLen (fun bs R hW => by obtain ⟨x, rfl, _⟩ := hW; rfl) h) (fun cdv A outer s H vs Q E hr h => ?_)
  obtain ⟨pF, eF, kF, lF⟩ := FT.ex
  refine ⟨_, (pss_cons (ps_if ((pw_or (pt_not (pt_val (pe_callB call_isi (by rfl) T.b_isinstance (by decide +kernel) (pa_cons (pv 0) (pa_cons (pe_bltn (v := .ty "tuple") (by rfl) T.b_tuple (by decide +kernel) rfl) pa_nil))))) (pw_or (pt_cmpR op_eq (pe_callB call_lenQ (by rfl) T.b_len PySem.boot_len (pa_cons (pv 0) pa_nil)) pe_int (nomark _)) (pw_or1 (pt_not (pt_val (pe_callB call_isi (by rfl) T.b_isinstance (by decide +kernel) (pa_cons (pe_ix ix_tup (pv 0) pe_int (fun _ _ => rfl)) (pa_cons (pe_bltn (v := .ty "str") (by rfl) T.b_str (by decide +kernel) rfl) pa_nil))))))))).pt (pss_one (ps_ret pe_bl)) pss_nil)
      (pss_cons (ps_set (i := 1) sc_is_event.nd rfl (Or.inl rfl) (pe_kget (pe_gc (v := .ref pF) (by rfl) ⟨_, eF, rfl⟩) (pe_ix ix_tup (pv 0) pe_int (fun _ _ => rfl)) ⟨rfl, rfl, rfl, rfl⟩))
      (pss_cons (ps_if ((pw_or (pt_cmpR op_isN1 (pv 1) pe_non (nomark _)) (pw_or1 (pt_cmpR op_ne (pe_callB call_lenQ (by rfl) T.b_len PySem.boot_len (pa_cons (pv 0) pa_nil)) (pe_op op_add pe_int (pe_callB call_lenQ (by rfl) T.b_len PySem.boot_len (pa_cons (pv 1) pa_nil))) (nomark _))))).pt (pss_one (ps_ret pe_bl)) pss_nil)
      (pss_one (ps_ret (pe_callB (cr_all rfl) (by rfl) T.b_all (by decide +kernel) (pa_cons (pe_lc (own := [("kind", 2), ("part", 3)]) (g := gTup K 2 (gCons (gName 2) (gCons (gName 3) gNil))) (tt := tYes) rfl sc_is_event.nd (RZ.pi_zipA (by rfl) T.b_zip (pa_cons (pv 1) (pa_cons (pe_slice sl_tupA (pv 0) (po_some pe_int) po_none) pa_nil))) (blkOk_by (N := ["thing", "form", "kind", "part"]) (sc := defScope (topS 17)) (by decide +kernel)) (fun _ _ _ _ _ => (pg_tup rfl (pgs_cons (pg_name (i := 2) sc_is_event.nd rfl (Or.inl rfl)) (pgs_cons (pg_name (i := 3) sc_is_event.nd rfl (Or.inl rfl)) pgs_nil)))) (fun _ _ _ _ _ => pts_nil) (fun _ _ _ _ _ => (pe_c c__is_part hr (by decide) (by rfl) (pa_cons (pv 2) (pa_cons (pv 3) pa_nil))))) pa_nil))))))), ?_⟩
  refine body h _ fun bs R hW hl => ?_
  obtain ⟨x, rfl, hp, hs, hq⟩ := hW
  change bwS G3.lo K _ [.sh (x), .no, .no, .no] _
  try dsimp only [cxOf, Cx.nox]
  cases x with
  | src => cases hp
  | raw _ => cases hp
  | xc _ _ _ _ => cases hp
  | tup ds =>
    match ds, hs, hq with
    | [], hs, hq =>
      walk_at "bv"
      exact hq
    | .str k :: ps, hs, hq =>
      have hs := hs _ rfl
      rw [isEvB] at hq
      have lps : ps.length ≤ 1000 := by have := hs.2; rw [List.length_cons] at this; omega
      have sp : smsB 11 ps = true := by
        have := sm_tup hs.1
        rw [smsB, Bool.and_eq_true] at this
        exact this.2
      have lM := sizeLine_eq
      walk_at "bv"
      refine kgetB kF lF ?_
      walk_at "bv"
      cases e : formsE.lookup k with
      | none =>
        rw [e] at hq
        dsimp only at hq
        dsimp only [formB, List.set]
        walk_at "bv"
        exact hq
      | some fs =>
        rw [e] at hq
        dsimp only at hq
        dsimp only [formB, List.set]
        walk_at "bv"
        refine ite2 (fun h1 => ?_) (fun h1 => ?_)
        · have h1' : decide (ps.length = fs.length) = false := by
            refine decide_eq_false fun z => ?_
            rw [List.length_cons, List.length_map] at h1
            simp at h1
            omega
          rw [h1', Bool.false_and] at hq
          walk_at "bv"
          exact hq
        · have h1' : ps.length = fs.length := by
            rw [List.length_cons, List.length_map] at h1
            simp at h1
            omega
          rw [decide_eq_true h1', Bool.true_and] at hq
          walk_at "bv"
          refine ofN (lcMap pairF ?_)
          refine BV.wzip ?_
          walk_at "bv"
          have e2 : cutB (.str k :: ps) (some 1) none = ps := cut1
          rw [e2]
          refine ⟨Nat.le_trans pairs_len (by omega), fun i d hd => ?_, ?_⟩
          · obtain ⟨x, y, hx, hy, rfl⟩ := pairs_at hd
            rw [List.getElem?_map] at hx
            cases e3 : fs[i]? with
            | none => rw [e3] at hx; cases hx
            | some kk =>
              rw [e3] at hx
              obtain rfl := (Option.some.inj hx).symm
              walk_at "bv"
              exact ⟨kk, y, rfl, sm_up (sms_at sp hy), rfl⟩
          · rw [pairs_map]
            walk_at "bv"
            refine all_ ?_
            rw [List.all_map]
            exact hq
    | .non :: ps, hs, hq =>
      walk_at "bv"
      exact hq
    | .bl _ :: ps, hs, hq =>
      walk_at "bv"
      exact hq
    | .int _ :: ps, hs, hq =>
      walk_at "bv"
      exact hq
    | .tup _ :: ps, hs, hq =>
      walk_at "bv"
      exact hq
    | .lst _ :: ps, hs, hq =>
      walk_at "bv"
      exact hq
    | .dct _ _ :: ps, hs, hq =>
      walk_at "bv"
      exact hq
    | .src :: ps, hs, hq => (have := (hs _ rfl).1; simp [smB, smsB] at this)
    | .raw _ :: ps, hs, hq => (have := (hs _ rfl).1; simp [smB, smsB] at this)
    | .xc _ _ _ _ :: ps, hs, hq => (have := (hs _ rfl).1; simp [smB, smsB] at this)
  | _ =>
    walk_at "bv"
    exact hq
end
end SF

set_option Elab.async false
set_option linter.all false
set_option maxRecDepth 100000
set_option maxHeartbeats 4000000
/-! k85: _law_number, _law_value, _law_event, _law_near -/
namespace SF
open PySem PySem.Spec PyProof.Rows L2 G0 BV
open C8 (Cal Mak Met pe_c pe_mk pe_mt pe_mt0 pe_gc)
/-- a value of an event -/
inductive VB : B → Prop
  | none : VB (.tup [.str "none"])
  | me : VB (.tup [.str "me"])
  | other (n : Nat) (h : n ≤ 999999) : VB (.tup [.str "other", .int n])
  | word (z : Str) (h : Nm z) : VB (.tup [.str "word", .str z])
/-- an event -/
inductive EB : B → Prop
  | gives (v : B) (h : VB v) : EB (.tup [.str "gives", v])
  | throws (v : B) (h : VB v) : EB (.tup [.str "throws", v])
  | calls (n : Nat) (hn : n ≤ 999999) (v u : B) (h : VB v) (k : VB u) : EB (.tup [.str "calls", .int n, v, u])
  | asks (z : Str) (hz : Nm z) (v u : B) (h : VB v) (k : VB u) : EB (.tup [.str "asks", .str z, v, u])
def WNumber (bs : List B) (R : B → Prop) : Prop := bs = [.src] ∧ ∀ n : Nat, n ≤ 999999 → R (.int n)
def WValue (bs : List B) (R : B → Prop) : Prop := bs = [.src] ∧ ∀ b, VB b → R b
def WEvent (bs : List B) (R : B → Prop) : Prop := bs = [.src] ∧ ∀ b, EB b → R b
def WNear (bs : List B) (R : B → Prop) : Prop := ∃ e, bs = [.src, e] ∧ EB e ∧ ∀ b, EB b → R b
section
variable {P : Program} {w : World} {K : PySem.W.Frag} {mg : Str → Option Value} {base : Heap}
set_option Elab.async false
set_option linter.all false
set_option maxRecDepth 100000
set_option maxHeartbeats 4000000
local macro_rules | `(tactic| walk_at "bv1") => `(tactic| first
  | (with_reducible refine BV.seq ?_) | (with_reducible refine BV.next ?_) | (with_reducible refine BV.ifS ?_) | ((with_reducible apply BV.retO); exact rfl) | (with_reducible refine BV.ret ?_) | (with_reducible refine BV.retN ?_) | ((with_reducible apply BV.asgPop); exact rfl) | (with_reducible refine BV.asgL0 ?_) | (with_reducible refine BV.asgD0 ?_) | (with_reducible refine BV.asg ?_) | (with_reducible refine BV.asgG ?_)
  | ((with_reducible apply BV.append); exact rfl) | ((with_reducible apply BV.extend); exact rfl) | ((with_reducible apply BV.augI); exact rfl) | ((with_reducible apply BV.truO); exact rfl) | (with_reducible refine BV.dropE ?_)
  | ((with_reducible apply BV.var); exact rfl) | (with_reducible refine BV.cInt ?_) | (with_reducible refine BV.cStr ?_) | (with_reducible refine BV.cBl ?_) | (with_reducible refine BV.cNon ?_) | (with_reducible refine BV.cRaw ?_)
  | ((with_reducible refine BV.isiT2 ?h1 ?h2 ?_); (case h1 => decide +kernel); (case h2 => decide +kernel)) | ((with_reducible refine And.intro (show isPlainB _ = true from ?hz) ?_); (case hz => exact rfl)) | ((with_reducible refine BV.listVals ?hu ?_); (case hu => trivial))
  | (with_reducible refine BV.nil ?_) | (with_reducible refine BV.cons ?_) | (with_reducible refine BV.tup ?_) | (with_reducible refine BV.lst ?_) | (with_reducible refine BV.op ?_) | (with_reducible refine BV.un ?_) | (with_reducible refine BV.thn_ ?_) | (with_reducible refine BV.cb ?_)
  | (with_reducible refine BV.call ?_) | (with_reducible refine BV.callLo ?_) | (with_reducible refine BV.callW ?_) | (with_reducible refine BV.callLoW ?_) | (with_reducible refine BV.ifE ?_) | (with_reducible refine BV.andV ?_) | (with_reducible refine BV.orV ?_) | (with_reducible refine BV.notV ?_) | (with_reducible refine BV.chain ?_) | (with_reducible refine BV.sl ?_) | (with_reducible refine BV.noP ?_) | (with_reducible refine BV.part ?_) | (with_reducible refine BV.bm0S ?_) | (with_reducible refine BV.strJoin ?_)
  | (with_reducible refine BV.tB_ ?_) | (with_reducible refine BV.test ?_) | (with_reducible refine BV.and_ ?_) | (with_reducible refine BV.or_ ?_) | (with_reducible refine BV.not_ ?_) | (with_reducible refine BV.yes ?_)
  | (with_reducible refine BV.i0 ?_) | (with_reducible refine BV.i0b ?_) | (with_reducible refine BV.eqS ?_) | (with_reducible refine BV.eqI ?_) | (with_reducible refine BV.neS ?_) | (with_reducible refine BV.neI ?_) | (with_reducible refine BV.neB ?_)
  | ((with_reducible apply BV.ixT); exact rfl) | (with_reducible refine BV.ixT BV.at0' ?_) | ((with_reducible apply BV.ixL); exact rfl)
  | (with_reducible refine BV.lenL ?_) | (with_reducible refine BV.lenT ?_) | ((with_reducible apply BV.lenO); exact rfl)
  | (with_reducible refine BV.slT ?_) | (with_reducible refine BV.int1 ?_) | (with_reducible refine BV.tupOfL ?_) | (with_reducible refine BV.tupOfT ?_) | (with_reducible refine BV.listOfL ?_) | (with_reducible refine BV.listOfT ?_) | (with_reducible refine BV.min2 ?_)
  | ((with_reducible refine BV.isi ?hh ?hp ?_); (case hh => decide +kernel); (case hp => exact rfl)) | ((with_reducible refine BV.isN ?hp ?_); (case hp => exact rfl)) | ((with_reducible refine BV.notN ?hp ?_); (case hp => exact rfl))
  | (with_reducible refine BV.exBl ?_) | (with_reducible refine BV.exInt ?_) | (with_reducible refine BV.exLst ?_) | (with_reducible refine BV.exTup ?_) | (with_reducible refine BV.exStr ?_) | (with_reducible refine BV.exZip ?_)
  | (with_reducible refine RD.ifT ?_) | (with_reducible refine RD.ifF ?_) | (with_reducible refine RD.ifNT ?_) | (with_reducible refine RD.ifNF ?_)
  | ((with_reducible refine And.intro (show List.length _ ≤ sizeLine from ?hz) ?_); (case hz => exact Nat.le_of_ble_eq_true rfl)) | ((with_reducible refine And.intro (show List.length _ < sizeLine from ?hz) ?_); (case hz => exact Nat.le_of_ble_eq_true rfl))
  | ((with_reducible refine RD.ifDT ?hd ?_); (case hd => first | decide +kernel | exact rfl)) | ((with_reducible refine RD.ifDF ?hd ?_); (case hd => first | decide +kernel | exact rfl))
  | ((with_reducible refine BV.catT ?hz ?_); (case hz => exact Nat.le_of_ble_eq_true rfl)) | ((with_reducible refine BV.catL ?hz ?_); (case hz => exact Nat.le_of_ble_eq_true rfl))
  | (with_reducible refine BV.wlist ?_) | (with_reducible refine BV.wtup ?_) | (with_reducible refine BV.wstr ?_) | (with_reducible refine BV.wrng1 ?_) | (with_reducible refine BV.wrng2 ?_) | (with_reducible refine BV.wzip ?_) | (with_reducible refine BV.wenum ?_)
  | (with_reducible refine BV.lcNil ?_) | (with_reducible refine BV.lcCons ?_) | (with_reducible refine BV.forNil ?_) | (with_reducible refine BV.forCons ?_) | (with_reducible refine BV.joined ?_) | (with_reducible refine BV.jsCons ?_) | (with_reducible refine BV.jsNil ?_) | (with_reducible refine BV.fmtS ?_) | (with_reducible refine BV.str2S ?_) | (with_reducible refine BV.neg1 ?_) | (with_reducible refine BV.ofN (BV.dNew ?_))
  | (with_reducible refine BV.gname ?_) | (with_reducible refine BV.gnil ?_) | (with_reducible refine BV.gcons ?_) | ((with_reducible apply BV.gtup); exact rfl)
  | ((with_reducible refine BV.vname ?hh ?_); (case hh => decide)) | (with_reducible refine BV.vnil ?_) | (with_reducible refine BV.vcons ?_) | ((with_reducible apply BV.vtup); exact rfl)
  | (with_reducible refine BV.dget ?_) | (with_reducible refine BV.din ?_) | (with_reducible refine BV.dnotin ?_))
local macro_rules | `(tactic| walk_at "bv") => `(tactic| repeat walk_at "bv1")

theorem sc__law_number : FnScope ["_law_source_here", "_law_kind"] ["_law_source_here"] (defScope (topS 31)) := ⟨rfl, rfl, rfl, by decide +kernel, rfl, by decide +kernel, by decide +kernel⟩
theorem ok_number (T : TxtD K mg) (c__law_draw : Cal P w K mg base 2 "_law_draw" (SpB G3.lo K WDraw) []) {f : Addr} {fd : FuncData} (F : Fun K "_law_number" "_law_number" (topS 31) f fd) : FnOk P w K mg base CX0 3 f fd ["_law_source_here"] (SpB G3 K WNumber) := by
  refine F.ok sc__law_number (fun vs H Q E h => spLen (fun bs R hW => by obtain ⟨rfl, _⟩ := hW; rfl) h) (fun cdv A outer s H vs Q E hr h => ?_)
  refine ⟨_, (pss_cons (ps_set (i := 1) sc__law_number.nd rfl (Or.inl rfl) (pe_c c__law_draw hr (by decide) (by rfl) (pa_cons (pv 0) (pa_cons pe_int pa_nil))))
      (pss_cons (ps_if (pt_cmpR op_lt (pv 1) pe_int (nomark _)) (pss_one (ps_ret (pe_ix ix_list (pe_lst (pa_cons pe_int (pa_cons pe_int pa_nil))) (pv 1) (fun _ _ => rfl)))) pss_nil)
      (pss_cons (ps_if (pt_cmpR op_lt (pv 1) pe_int (nomark _)) (pss_one (ps_ret (pe_c c__law_draw hr (by decide) (by rfl) (pa_cons (pv 0) (pa_cons pe_int pa_nil))))) pss_nil)
      (pss_one (ps_ret (pe_c c__law_draw hr (by decide) (by rfl) (pa_cons (pv 0) (pa_cons (pe_op op_pow pe_int pe_int) pa_nil)))))))), ?_⟩
  refine body h _ fun bs R hW hl => ?_
  obtain ⟨rfl, hq⟩ := hW
  change bwS G3 K _ [.sh (.src), .no] _
  dsimp only [cxOf, Cx.nox]
  walk_at "bv"
  refine ⟨6, rfl, by decide, by decide, fun k hk => ?_⟩
  walk_at "bv"
  refine ite2 (fun h1 => ?_) (fun h1 => ?_)
  · have h1' := of_decide_eq_true h1
    have : k = 0 ∨ k = 1 := by omega
    walk_at "bv"
    rcases this with rfl | rfl
    · walk_at "bv"
      exact hq 0 (by decide)
    · walk_at "bv"
      exact hq 999999 (by decide)
  · walk_at "bv"
    refine ite2 (fun h2 => ?_) (fun h2 => ?_)
    · walk_at "bv"
      refine ⟨10, rfl, by decide, by decide, fun n hn => hq n (by omega)⟩
    · walk_at "bv"
      refine BV.i1 ⟨by decide, by decide, by decide⟩ ?_
      walk_at "bv"
      exact ⟨1000000, rfl, by decide, by decide, fun n hn => hq n (by omega)⟩
theorem sc__law_value : FnScope ["_law_source_here", "_law_kind"] ["_law_source_here"] (defScope (topS 32)) := ⟨rfl, rfl, rfl, by decide +kernel, rfl, by decide +kernel, by decide +kernel⟩
theorem ok_value (T : TxtD K mg) (c__law_draw : Cal P w K mg base 2 "_law_draw" (SpB G3.lo K WDraw) []) (c__law_number : Cal P w K mg base 3 "_law_number" (SpB G3 K WNumber) []) (c__law_names : Cal P w K mg base 3 "_law_names" (SpB G3 K WNames) []) {f : Addr} {fd : FuncData} (F : Fun K "_law_value" "_law_value" (topS 32) f fd) : FnOk P w K mg base CX0 4 f fd ["_law_source_here"] (SpB G3 K WValue) := by
  refine F.ok sc__law_value (fun vs H Q E h => spLen (fun bs R hW => by obtain ⟨rfl, _⟩ := hW; rfl) h) (fun cdv A outer s H vs Q E hr h => ?_)
  refine ⟨_, (pss_cons (ps_set (i := 1) sc__law_value.nd rfl (Or.inl rfl) (pe_c c__law_draw hr (by decide) (by rfl) (pa_cons (pv 0) (pa_cons pe_int pa_nil))))
      (pss_cons (ps_if (pt_cmpR op_lt (pv 1) pe_int (nomark _)) (pss_one (ps_ret (pe_ix ix_list (pe_lst (pa_cons (pe_tup (pa_cons pe_str pa_nil)) (pa_cons (pe_tup (pa_cons pe_str pa_nil)) pa_nil))) (pv 1) (fun _ _ => rfl)))) pss_nil)
      (pss_cons (ps_if (pt_cmpR op_eq (pv 1) pe_int (nomark _)) (pss_one (ps_ret (pe_tup (pa_cons pe_str (pa_cons (pe_c c__law_number hr (by decide) (by rfl) (pa_cons (pv 0) pa_nil)) pa_nil))))) pss_nil)
      (pss_one (ps_ret (pe_tup (pa_cons pe_str (pa_cons (pe_ix ix_list (pe_c c__law_names hr (by decide) (by rfl) (pa_cons (pv 0) (pa_cons pe_int pa_nil))) pe_int (fun _ _ => rfl)) pa_nil)))))))), ?_⟩
  refine body h _ fun bs R hW hl => ?_
  obtain ⟨rfl, hq⟩ := hW
  change bwS G3 K _ [.sh (.src), .no] _
  dsimp only [cxOf, Cx.nox]
  walk_at "bv"
  refine ⟨5, rfl, by decide, by decide, fun k hk => ?_⟩
  walk_at "bv"
  refine ite2 (fun h1 => ?_) (fun h1 => ?_)
  · have h1' := of_decide_eq_true h1
    have : k = 0 ∨ k = 1 := by omega
    walk_at "bv"
    rcases this with rfl | rfl
    · walk_at "bv"
      exact hq _ .none
    · walk_at "bv"
      exact hq _ .me
  · walk_at "bv"
    refine ite2 (fun h2 => ?_) (fun h2 => ?_)
    · walk_at "bv"
      refine ⟨rfl, fun n hn => ?_⟩
      walk_at "bv"
      exact hq _ (.other n hn)
    · walk_at "bv"
      refine ⟨1, rfl, by decide, fun zs hl hz => ?_⟩
      obtain ⟨z, rfl⟩ : ∃ z, zs = [z] := by
        match zs, hl with
        | [z], _ => exact ⟨z, rfl⟩
      walk_at "bv"
      exact hq _ (.word z (hz.1 z (List.mem_singleton.mpr rfl)))
theorem sc__law_event : FnScope ["_law_source_here", "_law_kind", "_law_one"] ["_law_source_here"] (defScope (topS 33)) := ⟨rfl, rfl, rfl, by decide +kernel, rfl, by decide +kernel, by decide +kernel⟩
theorem ok_event (T : TxtD K mg) (c__law_draw : Cal P w K mg base 2 "_law_draw" (SpB G3.lo K WDraw) []) (c__law_number : Cal P w K mg base 3 "_law_number" (SpB G3 K WNumber) []) (c__law_names : Cal P w K mg base 3 "_law_names" (SpB G3 K WNames) []) (c__law_value : Cal P w K mg base 4 "_law_value" (SpB G3 K WValue) []) {f : Addr} {fd : FuncData} (F : Fun K "_law_event" "_law_event" (topS 33) f fd) : FnOk P w K mg base CX0 5 f fd ["_law_source_here"] (SpB G3 K WEvent) := by
  refine F.ok sc__law_event (fun vs H Q E h => spLen (fun bs R hW => by obtain ⟨rfl, _⟩ := hW; rfl) h) (fun cdv A outer s H vs Q E hr h => ?_)
  refine ⟨_, (pss_cons (ps_set (i := 1) sc__law_event.nd rfl (Or.inl rfl) (pe_c c__law_draw hr (by decide) (by rfl) (pa_cons (pv 0) (pa_cons pe_int pa_nil))))
      (pss_cons (ps_set (i := 2) sc__law_event.nd rfl (Or.inl rfl) (pe_c c__law_value hr (by decide) (by rfl) (pa_cons (pv 0) pa_nil)))
      (pss_cons (ps_if (pt_cmpR op_lt (pv 1) pe_int (nomark _)) (pss_one (ps_ret (pe_tup (pa_cons (pe_ix ix_list (pe_lst (pa_cons pe_str (pa_cons pe_str pa_nil))) (pv 1) (fun _ _ => rfl)) (pa_cons (pv 2) pa_nil))))) pss_nil)
      (pss_cons (ps_if (pt_cmpR op_eq (pv 1) pe_int (nomark _)) (pss_one (ps_ret (pe_tup (pa_cons pe_str (pa_cons (pe_c c__law_number hr (by decide) (by rfl) (pa_cons (pv 0) pa_nil)) (pa_cons (pv 2) (pa_cons (pe_c c__law_value hr (by decide) (by rfl) (pa_cons (pv 0) pa_nil)) pa_nil))))))) pss_nil)
      (pss_one (ps_ret (pe_tup (pa_cons pe_str (pa_cons (pe_ix ix_list (pe_c c__law_names hr (by decide) (by rfl) (pa_cons (pv 0) (pa_cons pe_int pa_nil))) pe_int (fun _ _ => rfl)) (pa_cons (pv 2) (pa_cons (pe_c c__law_value hr (by decide) (by rfl) (pa_cons (pv 0) pa_nil)) pa_nil))))))))))), ?_⟩
  refine body h _ fun bs R hW hl => ?_
  obtain ⟨rfl, hq⟩ := hW
  change bwS G3 K _ [.sh (.src), .no, .no] _
  dsimp only [cxOf, Cx.nox]
  walk_at "bv"
  refine ⟨4, rfl, by decide, by decide, fun k hk => ?_⟩
  walk_at "bv"
  refine ⟨rfl, fun v hv => ?_⟩
  walk_at "bv"
  refine ite2 (fun h1 => ?_) (fun h1 => ?_)
  · have h1' := of_decide_eq_true h1
    have : k = 0 ∨ k = 1 := by omega
    walk_at "bv"
    rcases this with rfl | rfl
    · walk_at "bv"
      exact hq _ (.gives v hv)
    · walk_at "bv"
      exact hq _ (.throws v hv)
  · walk_at "bv"
    refine ite2 (fun h2 => ?_) (fun h2 => ?_)
    · walk_at "bv"
      refine ⟨rfl, fun n hn => ?_⟩
      walk_at "bv"
      refine ⟨rfl, fun u hu => ?_⟩
      walk_at "bv"
      exact hq _ (.calls n hn v u hv hu)
    · walk_at "bv"
      refine ⟨1, rfl, by decide, fun zs hl hz => ?_⟩
      obtain ⟨z, rfl⟩ : ∃ z, zs = [z] := by
        match zs, hl with
        | [z], _ => exact ⟨z, rfl⟩
      walk_at "bv"
      refine ⟨rfl, fun u hu => ?_⟩
      walk_at "bv"
      exact hq _ (.asks z (hz.1 z (List.mem_singleton.mpr rfl)) v u hv hu)
theorem sc__law_near : FnScope ["_law_source_here", "_law_event_here", "_law_at"] ["_law_source_here", "_law_event_here"] (defScope (topS 34)) := ⟨rfl, rfl, rfl, by decide +kernel, rfl, by decide +kernel, by decide +kernel⟩
theorem ok_near (T : TxtD K mg) (c__law_draw : Cal P w K mg base 2 "_law_draw" (SpB G3.lo K WDraw) []) (c__law_value : Cal P w K mg base 4 "_law_value" (SpB G3 K WValue) []) (c__law_event : Cal P w K mg base 5 "_law_event" (SpB G3 K WEvent) []) {f : Addr} {fd : FuncData} (F : Fun K "_law_near" "_law_near" (topS 34) f fd) : FnOk P w K mg base CX0 6 f fd ["_law_source_here", "_law_event_here"] (SpB G3 K WNear) := by
  refine F.ok sc__law_near (fun vs H Q E h => spLen (fun bs R hW => by obtain ⟨e, rfl, _⟩ := hW; rfl) h) (fun cdv A outer s H vs Q E hr h => ?_)
  refine ⟨_, (pss_cons (ps_set (i := 2) sc__law_near.nd rfl (Or.inl rfl) (pe_c c__law_draw hr (by decide) (by rfl) (pa_cons (pv 0) (pa_cons (pe_callB call_lenQ (by rfl) T.b_len PySem.boot_len (pa_cons (pv 1) pa_nil)) pa_nil))))
      (pss_cons (ps_if ((pw_or (pt_cmpR op_eq (pv 2) pe_int (nomark _)) (pw_or ((pw_and (pt_cmpR op_eq (pe_ix ix_tup (pv 1) pe_int (fun _ _ => rfl)) pe_str (nomark _)) (pw_and1 (pt_cmpR op_eq (pv 2) pe_int (nomark _))))).pt (pw_or1 ((pw_and (pt_cmpR op_eq (pe_ix ix_tup (pv 1) pe_int (fun _ _ => rfl)) pe_str (nomark _)) (pw_and1 (pt_cmpR op_eq (pv 2) pe_int (nomark _))))).pt)))).pt (pss_one (ps_ret (pe_c c__law_event hr (by decide) (by rfl) (pa_cons (pv 0) pa_nil)))) pss_nil)
      (pss_one (ps_ret (pe_op op_catA (pe_op op_catA (pe_slice sl_tupA (pv 1) po_none (po_some (pv 2))) (pe_tup (pa_cons (pe_c c__law_value hr (by decide) (by rfl) (pa_cons (pv 0) pa_nil)) pa_nil))) (pe_slice sl_tupA (pv 1) (po_some (pe_op op_add (pv 2) pe_int)) po_none)))))), ?_⟩
  refine body h _ fun bs R hW hl => ?_
  obtain ⟨e, rfl, he, hq⟩ := hW
  change bwS G3 K _ [.sh (.src), .sh (e), .no] _
  dsimp only [cxOf, Cx.nox]
  cases he with
  | gives v hv =>
    walk_at "bv"
    refine ⟨2, rfl, by decide, by decide, fun k hk => ?_⟩
    have : k = 0 ∨ k = 1 := by omega
    rcases this with rfl | rfl
    · walk_at "bv"
      exact ⟨rfl, hq⟩
    · walk_at "bv"
      refine ⟨rfl, fun u hu => ?_⟩
      walk_at "bv"
      exact hq _ (.gives u hu)
  | throws v hv =>
    walk_at "bv"
    refine ⟨2, rfl, by decide, by decide, fun k hk => ?_⟩
    have : k = 0 ∨ k = 1 := by omega
    rcases this with rfl | rfl
    · walk_at "bv"
      exact ⟨rfl, hq⟩
    · walk_at "bv"
      refine ⟨rfl, fun u hu => ?_⟩
      walk_at "bv"
      exact hq _ (.throws u hu)
  | calls n hn v u hv hu =>
    walk_at "bv"
    refine ⟨4, rfl, by decide, by decide, fun k hk => ?_⟩
    have : k = 0 ∨ k = 1 ∨ k = 2 ∨ k = 3 := by omega
    rcases this with rfl | rfl | rfl | rfl
    · walk_at "bv"
      exact ⟨rfl, hq⟩
    · walk_at "bv"
      exact ⟨rfl, hq⟩
    · walk_at "bv"
      refine ⟨rfl, fun u' hu' => ?_⟩
      walk_at "bv"
      exact hq _ (.calls n hn u' u hu' hu)
    · walk_at "bv"
      refine ⟨rfl, fun u' hu' => ?_⟩
      walk_at "bv"
      exact hq _ (.calls n hn v u' hv hu')
  | asks z hz v u hv hu =>
    walk_at "bv"
    refine ⟨4, rfl, by decide, by decide, fun k hk => ?_⟩
    have : k = 0 ∨ k = 1 ∨ k = 2 ∨ k = 3 := by omega
    rcases this with rfl | rfl | rfl | rfl
    · walk_at "bv"
      exact ⟨rfl, hq⟩
    · walk_at "bv"
      exact ⟨rfl, hq⟩
    · walk_at "bv"
      refine ⟨rfl, fun u' hu' => ?_⟩
      walk_at "bv"
      exact hq _ (.asks z hz u' u hu' hu)
    · walk_at "bv"
      refine ⟨rfl, fun u' hu' => ?_⟩
      walk_at "bv"
      exact hq _ (.asks z hz v u' hv hu')
end
end SF

set_option Elab.async false
set_option linter.all false
set_option maxRecDepth 100000
set_option maxHeartbeats 4000000
/-! k85: the words of an event -/
namespace SF
open PySem PySem.Spec PyProof.Rows L2 G0 BV
/-- the text of a number -/
def numT (n : Nat) : Str := Str.ofString (toString ((n : Nat) : Int))
theorem numT_inj {n m : Nat} (hn : n ≤ 999999) (hm : m ≤ 999999) (h : numT n = numT m) : n = m := by
  have l : ∀ k : Nat, k ≤ 999999 → (TL.numL k).length ≤ 4300 := fun k hk => Nat.le_trans (TL.numL_len (k := 6) (by decide) (by omega)) (by decide)
  have e1 := TL.int_num (l n hn)
  have e2 := TL.int_num (l m hm)
  have h' : Str.ofString (toString ((n : Nat) : Int)) = Str.ofString (toString ((m : Nat) : Int)) := h
  rw [h', e2] at e1
  have := Option.some.inj e1
  omega
theorem numT_len {n : Nat} (hn : n ≤ 999999) : (numT n).length ≤ 6 := by
  have := TL.numL_len (n := n) (k := 6) (by decide) (by omega)
  rw [← TL.tl_num] at this
  exact this
theorem numT_free {n : Nat} : 32 ∉ TL.tl (numT n) := int_text_free' 32 ⟨by decide, by decide⟩ _
/-- a word of a text: short, without a blank -/
def OkW (z : Str) : Prop := z.length ≤ 100 ∧ 32 ∉ TL.tl z
inductive VW : B → List Str → Prop
  | none : VW (.tup [.str "none"]) ["none"]
  | me : VW (.tup [.str "me"]) ["me"]
  | other (n : Nat) (h : n ≤ 999999) : VW (.tup [.str "other", .int n]) ["other", numT n]
  | word (z : Str) (h : Nm z) : VW (.tup [.str "word", .str z]) ["'" ++ z]
/-- the words of the parts of an event -/
inductive EW : B → List (List Str) → Prop
  | gives (v : B) (a : List Str) (h : VW v a) : EW (.tup [.str "gives", v]) [["gives"], a]
  | throws (v : B) (a : List Str) (h : VW v a) : EW (.tup [.str "throws", v]) [["throws"], a]
  | calls (n : Nat) (hn : n ≤ 999999) (v u : B) (a b : List Str) (h : VW v a) (k : VW u b) : EW (.tup [.str "calls", .int n, v, u]) [["calls"], [numT n], a, b]
  | asks (z : Str) (hz : Nm z) (v u : B) (a b : List Str) (h : VW v a) (k : VW u b) : EW (.tup [.str "asks", .str z, v, u]) [["asks"], [z], a, b]
theorem vw_of {v : B} (h : VB v) : ∃ a, VW v a := by
  cases h with
  | none => exact ⟨_, .none⟩
  | me => exact ⟨_, .me⟩
  | other n h => exact ⟨_, .other n h⟩
  | word z h => exact ⟨_, .word z h⟩
theorem ew_of {e : B} (h : EB e) : ∃ a, EW e a := by
  cases h with
  | gives v h => obtain ⟨a, ha⟩ := vw_of h; exact ⟨_, .gives v a ha⟩
  | throws v h => obtain ⟨a, ha⟩ := vw_of h; exact ⟨_, .throws v a ha⟩
  | calls n hn v u h k => obtain ⟨a, ha⟩ := vw_of h; obtain ⟨b, hb⟩ := vw_of k; exact ⟨_, .calls n hn v u a b ha hb⟩
  | asks z hz v u h k => obtain ⟨a, ha⟩ := vw_of h; obtain ⟨b, hb⟩ := vw_of k; exact ⟨_, .asks z hz v u a b ha hb⟩
theorem Nm.cps {z : Str} (h : Nm z) : ∀ c ∈ TL.tl z, c ∈ codes := by
  obtain ⟨l, rfl, _, _, hc⟩ := h
  intro c hc'
  exact hc c (by simpa [TL.tl] using hc')
theorem codes_free : (32 : Nat) ∉ codes ∧ (39 : Nat) ∉ codes := by decide
theorem Nm.free {z : Str} (h : Nm z) : 32 ∉ TL.tl z := fun m => codes_free.1 (h.cps 32 m)
theorem Nm.okW {z : Str} (h : Nm z) : OkW z := ⟨by have := h.name.2.2; omega, h.free⟩
theorem tl_app {x y : Str} : TL.tl (x ++ y) = TL.tl x ++ TL.tl y := by
  exact TL.tl_append x y
theorem tick_tl {z : Str} : TL.tl ("'" ++ z) = 39 :: TL.tl z := by
  show ((Str.ofString "'").cps ++ z.cps).toList = _
  rw [Array.toList_append]
  rfl
theorem vw_ok {v : B} {a : List Str} (h : VW v a) : a ≠ [] ∧ a.length ≤ 2 ∧ ∀ w ∈ a, OkW w := by
  have k : ∀ w ∈ (["none", "me", "other"] : List Str), OkW w := by
    intro w hw
    have : w = "none" ∨ w = "me" ∨ w = "other" := by simpa using hw
    rcases this with rfl | rfl | rfl <;> exact ⟨by decide +kernel, by decide +kernel⟩
  cases h with
  | none => exact ⟨by simp, by simp, fun w hw => by rw [List.mem_singleton.mp hw]; exact k _ (by simp)⟩
  | me => exact ⟨by simp, by simp, fun w hw => by rw [List.mem_singleton.mp hw]; exact k _ (by simp)⟩
  | other n h => 
    refine ⟨by simp, by simp, fun w hw => ?_⟩
    rcases List.mem_cons.mp hw with rfl | hw
    · exact k _ (by simp)
    · rw [List.mem_singleton.mp hw]
      exact ⟨Nat.le_trans (numT_len h) (by decide), numT_free⟩
  | word z h =>
    refine ⟨by simp, by simp, fun w hw => ?_⟩
    rw [List.mem_singleton.mp hw]
    refine ⟨?_, ?_⟩
    · have := h.name.2.2
      rw [TL.len_tl, tick_tl, List.length_cons, ← TL.len_tl]
      omega
    · rw [tick_tl]
      exact fun m => (List.mem_cons.mp m).elim (by decide) h.free
theorem ew_ok {e : B} {ws : List (List Str)} (h : EW e ws) : (∀ a ∈ ws, a ≠ []) ∧ ws.flatten.length ≤ 6 ∧ ∀ w ∈ ws.flatten, OkW w := by
  have k : ∀ w ∈ (["gives", "throws", "calls", "asks"] : List Str), OkW w := by
    intro w hw
    have : w = "gives" ∨ w = "throws" ∨ w = "calls" ∨ w = "asks" := by simpa using hw
    rcases this with rfl | rfl | rfl | rfl <;> exact ⟨by decide +kernel, by decide +kernel⟩
  cases h with
  | gives v a h =>
    obtain ⟨h1, h2, h3⟩ := vw_ok h
    refine ⟨fun b hb => ?_, by simp; omega, fun w hw => ?_⟩
    · rcases List.mem_cons.mp hb with rfl | hb
      · simp
      · rw [List.mem_singleton.mp hb]; exact h1
    · rcases List.mem_cons.mp (show w ∈ ("gives" : Str) :: a by simpa using hw) with rfl | hw
      · exact k _ (by simp)
      · exact h3 w hw
  | throws v a h =>
    obtain ⟨h1, h2, h3⟩ := vw_ok h
    refine ⟨fun b hb => ?_, by simp; omega, fun w hw => ?_⟩
    · rcases List.mem_cons.mp hb with rfl | hb
      · simp
      · rw [List.mem_singleton.mp hb]; exact h1
    · rcases List.mem_cons.mp (show w ∈ ("throws" : Str) :: a by simpa using hw) with rfl | hw
      · exact k _ (by simp)
      · exact h3 w hw
  | calls n hn v u a b h g =>
    obtain ⟨h1, h2, h3⟩ := vw_ok h
    obtain ⟨g1, g2, g3⟩ := vw_ok g
    refine ⟨fun c hc => ?_, by simp; omega, fun w hw => ?_⟩
    · have : c = (["calls"] : List Str) ∨ c = [numT n] ∨ c = a ∨ c = b := by simpa using hc
      rcases this with rfl | rfl | rfl | rfl
      · simp
      · simp
      · exact h1
      · exact g1
    · have : w = "calls" ∨ w = numT n ∨ w ∈ a ∨ w ∈ b := by simpa using hw
      rcases this with rfl | rfl | hw | hw
      · exact k _ (by simp)
      · exact ⟨Nat.le_trans (numT_len hn) (by decide), numT_free⟩
      · exact h3 w hw
      · exact g3 w hw
  | asks z hz v u a b h g =>
    obtain ⟨h1, h2, h3⟩ := vw_ok h
    obtain ⟨g1, g2, g3⟩ := vw_ok g
    refine ⟨fun c hc => ?_, by simp; omega, fun w hw => ?_⟩
    · have : c = (["asks"] : List Str) ∨ c = [z] ∨ c = a ∨ c = b := by simpa using hc
      rcases this with rfl | rfl | rfl | rfl
      · simp
      · simp
      · exact h1
      · exact g1
    · have : w = "asks" ∨ w = z ∨ w ∈ a ∨ w ∈ b := by simpa using hw
      rcases this with rfl | rfl | hw | hw
      · exact k _ (by simp)
      · exact hz.okW
      · exact h3 w hw
      · exact g3 w hw
/-! ### joined -/
def evT (ws : List Str) : Str := Txt.join " " ws
theorem join_app {sep : Str} : ∀ {as bs : List Str}, as ≠ [] → bs ≠ [] → Str.join sep (as ++ bs) = Str.join sep as ++ sep ++ Str.join sep bs
  | [], _, h, _ => absurd rfl h
  | [a], [], _, h => absurd rfl h
  | [a], b :: bs, _, _ => rfl
  | a :: a2 :: r, bs, _, hb => by
    have ih := join_app (sep := sep) (as := a2 :: r) (bs := bs) (by simp) hb
    show a ++ sep ++ Str.join sep ((a2 :: r) ++ bs) = (a ++ sep ++ Str.join sep (a2 :: r)) ++ sep ++ Str.join sep bs
    rw [ih]
    refine TL.ext_tl ?_
    simp only [tl_app, List.append_assoc]
theorem join_flat {sep : Str} : ∀ {ws : List (List Str)}, (∀ a ∈ ws, a ≠ []) → Str.join sep (ws.map (Str.join sep)) = Str.join sep ws.flatten
  | [], _ => rfl
  | [a], _ => by simp [Str.join]
  | a :: b :: r, h => by
    have ih := join_flat (sep := sep) (ws := b :: r) fun x hx => h x (List.mem_cons_of_mem _ hx)
    have hb : (b :: r).flatten ≠ [] := by
      rw [List.flatten_cons]
      exact fun z => h b (by simp) (List.append_eq_nil_iff.mp z).1
    show Str.join sep a ++ sep ++ Str.join sep ((b :: r).map (Str.join sep)) = _
    rw [ih, List.flatten_cons (l := a), join_app (h a (by simp)) hb]
theorem evT_flat {ws : List (List Str)} (h : ∀ a ∈ ws, a ≠ []) : Txt.join " " (ws.map evT) = evT ws.flatten := by
  have e : (evT : List Str → Str) = Str.join " " := funext fun x => TL.join_eq _ _
  rw [e, TL.join_eq]
  exact join_flat h
theorem evT_inj {as bs : List Str} (ha : as ≠ []) (hb : bs ≠ []) (h1 : ∀ w ∈ as, OkW w) (h2 : ∀ w ∈ bs, OkW w) (h : evT as = evT bs) : as = bs := by
  have k : ∀ {cs : List Str}, cs ≠ [] → (∀ w ∈ cs, OkW w) → Txt.split (evT cs) " " = cs := fun {cs} hc hw => TL.split_join (y := " ") (s := 32) (S := []) rfl (by decide +kernel) hc fun p hp => (hw p hp).2
  rw [← k ha h1, h, k hb h2]
theorem sum_le {as : List Str} (h : ∀ w ∈ as, OkW w) : (as.map (·.length)).sum ≤ 100 * as.length := by
  induction as with
  | nil => simp
  | cons a r ih =>
    have h1 := (h a (by simp)).1
    have h2 := ih fun w hw => h w (List.mem_cons_of_mem _ hw)
    rw [List.map_cons, List.sum_cons, List.length_cons]
    omega
/-! ### equal words, equal events -/
theorem vw_first {v v' : B} {a a' r r' : List Str} (h : VW v a) (k : VW v' a') (e : a ++ r = a' ++ r') : v = v' ∧ r = r' := by
  have nw : ∀ (z : Str) (w : Str), w = "none" ∨ w = "me" ∨ w = "other" → w ≠ "'" ++ z := fun z w hw e => by
    have e2 := congrArg TL.tl e
    rw [tick_tl] at e2
    rcases hw with rfl | rfl | rfl <;> exact absurd (congrArg List.head? e2) (by simp [TL.tl]; decide +kernel)
  cases h with
  | none => cases k with
    | none => exact ⟨rfl, by simpa using e⟩
    | me => exact absurd (List.cons.inj e).1 (by decide +kernel)
    | other => exact absurd (List.cons.inj e).1 (by decide +kernel)
    | word z h => exact absurd (List.cons.inj e).1 (nw z _ (.inl rfl))
  | me => cases k with
    | none => exact absurd (List.cons.inj e).1 (by decide +kernel)
    | me => exact ⟨rfl, by simpa using e⟩
    | other => exact absurd (List.cons.inj e).1 (by decide +kernel)
    | word z h => exact absurd (List.cons.inj e).1 (nw z _ (.inr (.inl rfl)))
  | other n hn => cases k with
    | none => exact absurd (List.cons.inj e).1 (by decide +kernel)
    | me => exact absurd (List.cons.inj e).1 (by decide +kernel)
    | other m hm =>
      have e2 := (List.cons.inj e).2
      have e3 := List.cons.inj e2
      have := numT_inj hn hm e3.1
      subst this
      exact ⟨rfl, e3.2⟩
    | word z h => exact absurd (List.cons.inj e).1 (nw z _ (.inr (.inr rfl)))
  | word z h => cases k with
    | none => exact absurd (List.cons.inj e).1.symm (nw z _ (.inl rfl))
    | me => exact absurd (List.cons.inj e).1.symm (nw z _ (.inr (.inl rfl)))
    | other => exact absurd (List.cons.inj e).1.symm (nw z _ (.inr (.inr rfl)))
    | word z' h' =>
      have e2 := List.cons.inj e
      have e3 := congrArg TL.tl e2.1
      rw [tick_tl, tick_tl] at e3
      have e4 : z = z' := TL.ext_tl (List.cons.inj e3).2
      subst e4
      exact ⟨rfl, e2.2⟩
theorem ew_inj {e e' : B} {ws ws' : List (List Str)} (h : EW e ws) (k : EW e' ws') (q : ws.flatten = ws'.flatten) : e = e' := by
  cases h with
  | gives v a h => cases k with
    | gives v' a' h' =>
      have := vw_first (r := []) (r' := []) h h' (by simpa using q)
      rw [this.1]
    | throws => exact absurd (congrArg List.head? q) (by simp; decide +kernel)
    | calls => exact absurd (congrArg List.head? q) (by simp; decide +kernel)
    | asks => exact absurd (congrArg List.head? q) (by simp; decide +kernel)
  | throws v a h => cases k with
    | gives => exact absurd (congrArg List.head? q) (by simp; decide +kernel)
    | throws v' a' h' =>
      have := vw_first (r := []) (r' := []) h h' (by simpa using q)
      rw [this.1]
    | calls => exact absurd (congrArg List.head? q) (by simp; decide +kernel)
    | asks => exact absurd (congrArg List.head? q) (by simp; decide +kernel)
  | calls n hn v u a b h g => cases k with
    | gives => exact absurd (congrArg List.head? q) (by simp; decide +kernel)
    | throws => exact absurd (congrArg List.head? q) (by simp; decide +kernel)
    | calls m hm v' u' a' b' h' g' =>
      have q' : numT n :: (a ++ (b ++ [])) = numT m :: (a' ++ (b' ++ [])) := by simpa using q
      obtain ⟨q1, q2⟩ := List.cons.inj q'
      obtain ⟨rfl, q3⟩ := vw_first h h' q2
      obtain ⟨rfl, _⟩ := vw_first g g' q3
      rw [numT_inj hn hm q1]
    | asks => exact absurd (congrArg List.head? q) (by simp; decide +kernel)
  | asks z hz v u a b h g => cases k with
    | gives => exact absurd (congrArg List.head? q) (by simp; decide +kernel)
    | throws => exact absurd (congrArg List.head? q) (by simp; decide +kernel)
    | calls => exact absurd (congrArg List.head? q) (by simp; decide +kernel)
    | asks z' hz' v' u' a' b' h' g' =>
      have q' : z :: (a ++ (b ++ [])) = z' :: (a' ++ (b' ++ [])) := by simpa using q
      obtain ⟨q1, q2⟩ := List.cons.inj q'
      obtain ⟨rfl, q3⟩ := vw_first h h' q2
      obtain ⟨rfl, _⟩ := vw_first g g' q3
      rw [q1]
end SF

set_option Elab.async false
set_option linter.all false
set_option maxRecDepth 100000
set_option maxHeartbeats 4000000
/-! event_text, by value -/
namespace SF
open PySem PySem.Spec PyProof.Rows L2 G0 BV
open C8 (Cal Mak Met pe_c pe_mk pe_mt pe_mt0 pe_gc)
inductive PartW : B → List Str → Prop
  | val (x : B) (ws : List Str) (h : VW x ws) : PartW x ws
  | str (z : Str) (h : OkW z) : PartW (.str z) [z]
  | num (n : Nat) (h : n ≤ 999999) : PartW (.int n) [numT n]
theorem evT1 {z : Str} : evT [z] = z := TL.join_eq " " [z]
theorem num_log {n : Nat} (h : n ≤ 999999) : ((n : Int)).natAbs.log2 < 1920 := by
  have : n.log2 < 20 := by
    by_cases h0 : n = 0
    · subst h0; decide
    · exact (Nat.log2_lt h0).mpr (by omega)
  show n.log2 < 1920
  omega
theorem jsz {as : List Str} (h : ∀ w ∈ as, OkW w) (hl : as.length ≤ 10) : (as.map (·.length)).sum + as.length * (" " : Str).length ≤ 16777216 := by
  have h1 := sum_le h
  have h2 : (" " : Str).length = 1 := by decide +kernel
  rw [h2]
  omega
theorem evT_len : ∀ {a : List Str}, (∀ w ∈ a, OkW w) → (evT a).length ≤ 101 * a.length
  | [], _ => by
    show (Txt.join " " []).length ≤ _
    rw [TL.join_eq]
    exact Nat.zero_le _
  | [x], h => by
    rw [evT1]
    have := (h x (by simp)).1
    rw [List.length_singleton]
    omega
  | x :: y :: r, h => by
    have ih := evT_len (a := y :: r) fun w hw => h w (List.mem_cons_of_mem _ hw)
    have hx := (h x (by simp)).1
    have e : evT (x :: y :: r) = x ++ " " ++ evT (y :: r) := by
      show Txt.join " " (x :: y :: r) = x ++ " " ++ Txt.join " " (y :: r)
      rw [TL.join_eq, TL.join_eq]
      rfl
    have h1 : (" " : Str).length = 1 := by decide +kernel
    rw [TL.len_tl] at ih hx h1 ⊢
    rw [e, tl_app, tl_app, List.length_append, List.length_append, h1, List.length_cons]
    omega
theorem sumE : ∀ {ws : List (List Str)}, (∀ w ∈ ws.flatten, OkW w) → ((ws.map evT).map (·.length)).sum ≤ 101 * ws.flatten.length
  | [], _ => Nat.zero_le _
  | a :: r, h => by
    have h1 := evT_len (a := a) fun w hw => h w (by rw [List.flatten_cons]; exact List.mem_append_left _ hw)
    have h2 := sumE (ws := r) fun w hw => h w (by rw [List.flatten_cons]; exact List.mem_append_right _ hw)
    rw [List.map_cons, List.map_cons, List.sum_cons, List.flatten_cons, List.length_append]
    omega
theorem flat_len : ∀ {ws : List (List Str)}, (∀ a ∈ ws, a ≠ []) → ws.length ≤ ws.flatten.length
  | [], _ => Nat.zero_le _
  | a :: r, h => by
    have h1 := List.length_pos_iff.mpr (h a (by simp))
    have h2 := flat_len (ws := r) fun b hb => h b (List.mem_cons_of_mem _ hb)
    rw [List.length_cons, List.flatten_cons, List.length_append]
    omega
theorem jszE {ws : List (List Str)} (h : ∀ a ∈ ws, a ≠ []) (hw : ∀ w ∈ ws.flatten, OkW w) (hl : ws.flatten.length ≤ 10) : ((ws.map evT).map (·.length)).sum + (ws.map evT).length * (" " : Str).length ≤ 16777216 := by
  have h1 := sumE hw
  have h2 := flat_len h
  have h3 : (" " : Str).length = 1 := by decide +kernel
  rw [h3, List.length_map]
  omega
def WEvPart (bs : List B) (R : B → Prop) : Prop := ∃ x ws, bs = [x] ∧ PartW x ws ∧ R (.str (evT ws))
/-- what is known of a class of errors -/
structure ErrC (P : Program) (w : World) (K : PySem.W.Frag) (mg : Str → Option Value) (base : Heap) (x : Str) (C : Addr) (lv : Nat) (ps : List Str) (sp : Sp) : Prop where
  oex : OexC K C
  ex : ∃ (fI : Addr) (fd : FuncData), PySem.W.findIn K (.ref C) "__init__" = some (some (.ref fI)) ∧ PySem.W.typeIn K (.ref fI) = some (.type "function") ∧ FnOk P w K mg base CX0 lv fI fd ps sp ∧ Binds K fd ps []
  g : mg x = some (.ref C)
def WText (C : Addr) (bs : List B) (R : B → Prop) (XP : Addr → B → Prop) : Prop := ∃ x, bs = [x] ∧ isPlainB x = true ∧ (∀ ds, x = .tup ds → smB 12 x = true ∧ ds.length ≤ 1000) ∧ CpOk x ∧ (isEvB x = true → ∃ ws, EW x ws ∧ R (.str (evT ws.flatten))) ∧ (isEvB x = false → XP C x)
section
variable {P : Program} {w : World} {K : PySem.W.Frag} {mg : Str → Option Value} {base : Heap}
set_option Elab.async false
set_option linter.all false
set_option maxRecDepth 100000
set_option maxHeartbeats 4000000
local macro_rules | `(tactic| walk_at "bv1") => `(tactic| first
  | (with_reducible refine BV.seq ?_) | (with_reducible refine BV.next ?_) | (with_reducible refine BV.ifS ?_) | ((with_reducible apply BV.retO); exact rfl) | (with_reducible refine BV.ret ?_) | (with_reducible refine BV.retN ?_) | ((with_reducible apply BV.asgPop); exact rfl) | (with_reducible refine BV.asgL0 ?_) | (with_reducible refine BV.asgD0 ?_) | (with_reducible refine BV.asg ?_) | (with_reducible refine BV.asgG ?_)
  | ((with_reducible apply BV.append); exact rfl) | ((with_reducible apply BV.extend); exact rfl) | ((with_reducible apply BV.augI); exact rfl) | ((with_reducible apply BV.truO); exact rfl) | (with_reducible refine BV.dropE ?_)
  | ((with_reducible apply BV.var); exact rfl) | (with_reducible refine BV.cInt ?_) | (with_reducible refine BV.cStr ?_) | (with_reducible refine BV.cBl ?_) | (with_reducible refine BV.cNon ?_) | (with_reducible refine BV.cRaw ?_)
  | ((with_reducible refine BV.isiT2 ?h1 ?h2 ?_); (case h1 => decide +kernel); (case h2 => decide +kernel)) | ((with_reducible refine And.intro (show isPlainB _ = true from ?hz) ?_); (case hz => exact rfl)) | ((with_reducible refine BV.listVals ?hu ?_); (case hu => trivial))
  | (with_reducible refine BV.nil ?_) | (with_reducible refine BV.cons ?_) | (with_reducible refine BV.tup ?_) | (with_reducible refine BV.lst ?_) | (with_reducible refine BV.op ?_) | (with_reducible refine BV.un ?_) | (with_reducible refine BV.thn_ ?_) | (with_reducible refine BV.cb ?_)
  | (with_reducible refine BV.call ?_) | (with_reducible refine BV.callLo ?_) | (with_reducible refine BV.callW ?_) | (with_reducible refine BV.callLoW ?_) | (with_reducible refine BV.ifE ?_) | (with_reducible refine BV.andV ?_) | (with_reducible refine BV.orV ?_) | (with_reducible refine BV.notV ?_) | (with_reducible refine BV.chain ?_) | (with_reducible refine BV.sl ?_) | (with_reducible refine BV.noP ?_) | (with_reducible refine BV.part ?_) | (with_reducible refine BV.bm0S ?_) | (with_reducible refine BV.strJoin ?_)
  | (with_reducible refine BV.tB_ ?_) | (with_reducible refine BV.test ?_) | (with_reducible refine BV.and_ ?_) | (with_reducible refine BV.or_ ?_) | (with_reducible refine BV.not_ ?_) | (with_reducible refine BV.yes ?_)
  | (with_reducible refine BV.i0 ?_) | (with_reducible refine BV.i0b ?_) | (with_reducible refine BV.eqS ?_) | (with_reducible refine BV.eqI ?_) | (with_reducible refine BV.neS ?_) | (with_reducible refine BV.neI ?_) | (with_reducible refine BV.neB ?_)
  | ((with_reducible apply BV.ixT); exact rfl) | (with_reducible refine BV.ixT BV.at0' ?_) | ((with_reducible apply BV.ixL); exact rfl)
  | (with_reducible refine BV.lenL ?_) | (with_reducible refine BV.lenT ?_) | ((with_reducible apply BV.lenO); exact rfl)
  | (with_reducible refine BV.slT ?_) | (with_reducible refine BV.int1 ?_) | (with_reducible refine BV.tupOfL ?_) | (with_reducible refine BV.tupOfT ?_) | (with_reducible refine BV.listOfL ?_) | (with_reducible refine BV.listOfT ?_) | (with_reducible refine BV.min2 ?_)
  | ((with_reducible refine BV.isi ?hh ?hp ?_); (case hh => decide +kernel); (case hp => exact rfl)) | ((with_reducible refine BV.isN ?hp ?_); (case hp => exact rfl)) | ((with_reducible refine BV.notN ?hp ?_); (case hp => exact rfl))
  | (with_reducible refine BV.exBl ?_) | (with_reducible refine BV.exInt ?_) | (with_reducible refine BV.exLst ?_) | (with_reducible refine BV.exTup ?_) | (with_reducible refine BV.exStr ?_) | (with_reducible refine BV.exZip ?_)
  | (with_reducible refine RD.ifT ?_) | (with_reducible refine RD.ifF ?_) | (with_reducible refine RD.ifNT ?_) | (with_reducible refine RD.ifNF ?_)
  | ((with_reducible refine And.intro (show List.length _ ≤ sizeLine from ?hz) ?_); (case hz => exact Nat.le_of_ble_eq_true rfl)) | ((with_reducible refine And.intro (show List.length _ < sizeLine from ?hz) ?_); (case hz => exact Nat.le_of_ble_eq_true rfl))
  | ((with_reducible refine RD.ifDT ?hd ?_); (case hd => first | decide +kernel | exact rfl)) | ((with_reducible refine RD.ifDF ?hd ?_); (case hd => first | decide +kernel | exact rfl))
  | ((with_reducible refine BV.catT ?hz ?_); (case hz => exact Nat.le_of_ble_eq_true rfl)) | ((with_reducible refine BV.catL ?hz ?_); (case hz => exact Nat.le_of_ble_eq_true rfl))
  | (with_reducible refine BV.wlist ?_) | (with_reducible refine BV.wtup ?_) | (with_reducible refine BV.wstr ?_) | (with_reducible refine BV.wrng1 ?_) | (with_reducible refine BV.wrng2 ?_) | (with_reducible refine BV.wzip ?_) | (with_reducible refine BV.wenum ?_)
  | (with_reducible refine BV.lcNil ?_) | (with_reducible refine BV.lcCons ?_) | (with_reducible refine BV.forNil ?_) | (with_reducible refine BV.forCons ?_) | (with_reducible refine BV.joined ?_) | (with_reducible refine BV.jsCons ?_) | (with_reducible refine BV.jsNil ?_) | (with_reducible refine BV.fmtS ?_) | (with_reducible refine BV.str2S ?_) | (with_reducible refine BV.neg1 ?_) | (with_reducible refine BV.ofN (BV.dNew ?_))
  | (with_reducible refine BV.gname ?_) | (with_reducible refine BV.gnil ?_) | (with_reducible refine BV.gcons ?_) | ((with_reducible apply BV.gtup); exact rfl)
  | ((with_reducible refine BV.vname ?hh ?_); (case hh => decide)) | (with_reducible refine BV.vnil ?_) | (with_reducible refine BV.vcons ?_) | ((with_reducible apply BV.vtup); exact rfl)
  | (with_reducible refine BV.dget ?_) | (with_reducible refine BV.din ?_) | (with_reducible refine BV.dnotin ?_))
local macro_rules | `(tactic| walk_at "bv") => `(tactic| repeat walk_at "bv1")

theorem sc__event_part : FnScope ["part", "word"] ["part"] (defScope (topS 23)) := ⟨rfl, rfl, rfl, by decide +kernel, rfl, by decide +kernel, by decide +kernel⟩
theorem ok_evPart (T : TxtE K mg) {f : Addr} {fd : FuncData} (F : Fun K "_event_part" "_event_part" (topS 23) f fd) : FnOk P w K mg base CX0 1 f fd ["part"] (SpB G3.lo K WEvPart) := by
  refine F.ok sc__event_part (fun vs H Q E h => spLen (fun bs R hW => by obtain ⟨x, ws, rfl, _⟩ := hW; rfl) h) (fun cdv A outer s H vs Q E hr h => ?_)
  refine ⟨_, (pss_cons (ps_if (pt_val (pe_callB call_isi (by rfl) T.b_isinstance (by decide +kernel) (pa_cons (pv 0) (pa_cons (pe_bltn (v := .ty "tuple") (by rfl) T.b_tuple (by decide +kernel) rfl) pa_nil)))) (pss_one (ps_ret (pe_ifExp (pt_cmpR op_eq (pe_ix ix_tup (pv 0) pe_int (fun _ _ => rfl)) pe_str (nomark _)) (pe_joined (PJ.cons pe_str (PJ.cons (pe_fmt (pe_ix ix_tup (pv 0) pe_int (fun _ _ => rfl))) PJ.nil))) (pe_join pe_str (pe_lc (own := [("word", 1)]) (tt := tYes) rfl sc__event_part.nd (pi_tup (pv 0)) (blkOk_by (N := ["part", "word"]) (sc := defScope (topS 23)) (by decide +kernel)) (fun _ _ _ _ _ => (pg_name (i := 1) sc__event_part.nd rfl (Or.inl rfl))) (fun _ _ _ _ _ => pts_nil) (fun _ _ _ _ _ => (pe_callTy G8.call_str2 (by rfl) T.b_str (by decide +kernel) (pa_cons (pv 1) pa_nil)))))))) pss_nil)
      (pss_one (ps_ret (pe_callTy G8.call_str2 (by rfl) T.b_str (by decide +kernel) (pa_cons (pv 0) pa_nil))))), ?_⟩
  refine body h _ fun bs R hW hl => ?_
  obtain ⟨x, ws, rfl, hx, hq⟩ := hW
  change bwS G3.lo K _ [.sh (x), .no] _
  try dsimp only [cxOf, Cx.nox]
  cases hx with
  | str z h =>
    rw [evT1] at hq
    walk_at "bv"
    exact hq
  | num n h =>
    rw [evT1] at hq
    walk_at "bv"
    exact str2I (num_log h) hq
  | val _ _ h =>
    cases h with
    | none =>
      walk_at "bv"
      refine ofN (lcU ?_)
      walk_at "bv"
      exact ⟨["none"], rfl, by decide +kernel, hq⟩
    | me =>
      walk_at "bv"
      refine ofN (lcU ?_)
      walk_at "bv"
      exact ⟨["me"], rfl, by decide +kernel, hq⟩
    | other n h =>
      obtain ⟨_, k2, k3⟩ := vw_ok (.other n h)
      walk_at "bv"
      refine ofN (lcU ?_)
      walk_at "bv"
      refine str2I (num_log h) ?_
      walk_at "bv"
      exact ⟨["other", numT n], rfl, jsz k3 (Nat.le_of_ble_eq_true rfl), hq⟩
    | word z h =>
      have e0 : Str.empty ++ Str.ofString "'" = ("'" : Str) := rfl
      have hz := h.name.2.2
      have k1 := ((vw_ok (.word z h)).2.2 _ (List.mem_singleton.mpr rfl)).1
      have lM := sizeLine_eq
      walk_at "bv"
      rw [e0]
      refine ⟨by decide +kernel, ?_⟩
      walk_at "bv"
      refine ⟨by omega, ?_⟩
      walk_at "bv"
      refine ⟨by omega, ?_⟩
      walk_at "bv"
      rw [evT1] at hq
      exact hq
theorem sc_event_text : FnScope ["event", "part"] ["event"] (defScope (topS 22)) := ⟨rfl, rfl, rfl, by decide +kernel, rfl, by decide +kernel, by decide +kernel⟩
theorem ok_evText (T : TxtE K mg) {CB : Addr} (B1 : ErrC P w K mg base "BadEvent" CB 15 ["self", "event"] (SpI G3 K CB "event" CpOk)) (c_is_event : Cal P w K mg base 5 "is_event" (SpB G3.lo K WIsEv) []) (c__event_part : Cal P w K mg base 1 "_event_part" (SpB G3.lo K WEvPart) []) {f : Addr} {fd : FuncData} (F : Fun K "event_text" "event_text" (topS 22) f fd) : FnOk P w K mg base (L2.CX P w) 17 f fd ["event"] (SpX G3 K [(CB, some "event")] (WText CB)) := by
  refine F.okX sc_event_text (fun vs H Q E h => spLenX (fun bs R XP hW => by obtain ⟨x, rfl, _⟩ := hW; rfl) h) (fun cdv A outer s H vs Q E hr h => ?_)
  obtain ⟨fI, fdB, iB, tB, GB, bB⟩ := B1.ex
  have hr15 := hr.mono (show 16 ≤ 16 by decide)
  refine ⟨_, (pss_cons (ps_if (pt_not (pt_val (pe_c c_is_event hr (by decide) (by rfl) (pa_cons (pv 0) pa_nil)))) (pss_one (ps_raise rfl (takes_of rfl rfl rfl rfl) (pmk_oex B1.oex iB tB GB hr15 bB .nil pass0 (by rfl) B1.g (pa_cons (pv 0) pa_nil)))) pss_nil)
      (pss_one (ps_ret (pe_join pe_str (pe_lc (own := [("part", 1)]) (tt := tYes) rfl sc_event_text.nd (pi_tup (pv 0)) (blkOk_by (N := ["event", "part"]) (sc := defScope (topS 22)) (by decide +kernel)) (fun _ _ _ _ _ => (pg_name (i := 1) sc_event_text.nd rfl (Or.inl rfl))) (fun _ _ _ _ _ => pts_nil) (fun _ _ _ _ _ => (pe_c c__event_part hr (by decide) (by rfl) (pa_cons (pv 1) pa_nil)))))))), ?_⟩
  refine bodyX h _ fun bs R XP hW hl => ?_
  obtain ⟨x, rfl, hp, hs, hc, h1, h2⟩ := hW
  change bwS (G3.wx K _ XP E) K _ [.sh (x), .no] _
  try dsimp only [cxOf, Cx.nox]
  walk_at "bv"
  refine ⟨x, rfl, hp, hs, ?_⟩
  cases e : isEvB x with
  | false =>
    walk_at "bv"
    refine raiseO (List.mem_singleton.mpr rfl) ?_
    walk_at "bv"
    exact ⟨x, rfl, hc, h2 e⟩
  | true =>
    obtain ⟨ws, hw, hq⟩ := h1 e
    obtain ⟨g1, g2, g3⟩ := ew_ok hw
    rw [← evT_flat g1] at hq
    have fin : ∀ ys : List B, ys = (ws.map evT).map B.str → ∃ ss : List Str, B.lst ys = .lst (ss.map B.str) ∧ (ss.map (·.length)).sum + ss.length * (" " : Str).length ≤ 16777216 ∧ R (.str (Txt.join " " ss)) := fun ys hy => ⟨ws.map evT, by rw [hy], jszE g1 g3 (by omega), hq⟩
    cases hw with
    | gives v a h =>
      walk_at "bv"
      refine ofN (lcU ?_)
      walk_at "bv"
      refine ⟨_, _, rfl, .str _ ⟨by decide +kernel, by decide +kernel⟩, ?_⟩
      walk_at "bv"
      refine ⟨_, _, rfl, .val _ _ h, ?_⟩
      walk_at "bv"
      exact fin _ rfl
    | throws v a h =>
      walk_at "bv"
      refine ofN (lcU ?_)
      walk_at "bv"
      refine ⟨_, _, rfl, .str _ ⟨by decide +kernel, by decide +kernel⟩, ?_⟩
      walk_at "bv"
      refine ⟨_, _, rfl, .val _ _ h, ?_⟩
      walk_at "bv"
      exact fin _ rfl
    | calls n hn v u a b h k =>
      walk_at "bv"
      refine ofN (lcU ?_)
      walk_at "bv"
      refine ⟨_, _, rfl, .str _ ⟨by decide +kernel, by decide +kernel⟩, ?_⟩
      walk_at "bv"
      refine ⟨_, _, rfl, .num n hn, ?_⟩
      walk_at "bv"
      refine ⟨_, _, rfl, .val _ _ h, ?_⟩
      walk_at "bv"
      refine ⟨_, _, rfl, .val _ _ k, ?_⟩
      walk_at "bv"
      exact fin _ rfl
    | asks z hz v u a b h k =>
      walk_at "bv"
      refine ofN (lcU ?_)
      walk_at "bv"
      refine ⟨_, _, rfl, .str _ ⟨by decide +kernel, by decide +kernel⟩, ?_⟩
      walk_at "bv"
      refine ⟨_, _, rfl, .str z hz.okW, ?_⟩
      walk_at "bv"
      refine ⟨_, _, rfl, .val _ _ h, ?_⟩
      walk_at "bv"
      refine ⟨_, _, rfl, .val _ _ k, ?_⟩
      walk_at "bv"
      exact fin _ rfl
end
end SF

set_option Elab.async false
set_option linter.all false
set_option maxRecDepth 100000
set_option maxHeartbeats 4000000
/-! k85: _law_due -/
namespace SF
open PySem PySem.Spec PyProof.Rows L2 G0 BV
open C8 (Cal Mak Met pe_c pe_mk pe_mt pe_mt0 pe_gc)
theorem ew_parts {e : B} {ws : List (List Str)} (h : EW e ws) : ∃ (z : Str) (ds : List B) (rest : List (List Str)), e = .tup (.str z :: ds) ∧ ws = [z] :: rest ∧ OkW z ∧ Paired PartW ds rest ∧ ds.length ≤ 3 := by
  have k : ∀ w ∈ (["gives", "throws", "calls", "asks"] : List Str), OkW w := by
    intro w hw
    have : w = "gives" ∨ w = "throws" ∨ w = "calls" ∨ w = "asks" := by simpa using hw
    rcases this with rfl | rfl | rfl | rfl <;> exact ⟨by decide +kernel, by decide +kernel⟩
  cases h with
  | gives v a h => exact ⟨_, _, _, rfl, rfl, k _ (by simp), .cons (.val _ _ h) .nil, Nat.le_of_ble_eq_true rfl⟩
  | throws v a h => exact ⟨_, _, _, rfl, rfl, k _ (by simp), .cons (.val _ _ h) .nil, Nat.le_of_ble_eq_true rfl⟩
  | calls n hn v u a b h g => exact ⟨_, _, _, rfl, rfl, k _ (by simp), .cons (.num n hn) (.cons (.val _ _ h) (.cons (.val _ _ g) .nil)), Nat.le_of_ble_eq_true rfl⟩
  | asks z hz v u a b h g => exact ⟨_, _, _, rfl, rfl, k _ (by simp), .cons (.str z hz.okW) (.cons (.val _ _ h) (.cons (.val _ _ g) .nil)), Nat.le_of_ble_eq_true rfl⟩
theorem paired_at {α β : Type} {R : α → β → Prop} {xs : List α} {ys : List β} (h : Paired R xs ys) : ∀ {i : Nat} {x : α}, xs[i]? = some x → ∃ y, ys[i]? = some y ∧ R x y := by
  induction h with
  | nil => intro i x e; simp at e
  | cons a _ ih =>
    intro i x e
    cases i with
    | zero =>
      obtain rfl := Option.some.inj e
      exact ⟨_, rfl, a⟩
    | succ i => exact ih (by simpa using e)
theorem take_flat {l : List (List Str)} {n : Nat} : ((l.take n).flatten).length ≤ l.flatten.length := by
  have := congrArg List.length (congrArg List.flatten (List.take_append_drop n l))
  rw [List.flatten_append, List.length_append] at this
  omega
def WDue (bs : List B) (R : B → Prop) : Prop := ∃ e ws, bs = [e] ∧ EW e ws ∧ R (.str (evT ws.flatten))
section
variable {P : Program} {w : World} {K : PySem.W.Frag} {mg : Str → Option Value} {base : Heap}
set_option Elab.async false
set_option linter.all false
set_option maxRecDepth 100000
set_option maxHeartbeats 4000000
local macro_rules | `(tactic| walk_at "bv1") => `(tactic| first
  | (with_reducible refine BV.seq ?_) | (with_reducible refine BV.next ?_) | (with_reducible refine BV.ifS ?_) | ((with_reducible apply BV.retO); exact rfl) | (with_reducible refine BV.ret ?_) | (with_reducible refine BV.retN ?_) | ((with_reducible apply BV.asgPop); exact rfl) | (with_reducible refine BV.asgL0 ?_) | (with_reducible refine BV.asgD0 ?_) | (with_reducible refine BV.asg ?_) | (with_reducible refine BV.asgG ?_)
  | ((with_reducible apply BV.append); exact rfl) | ((with_reducible apply BV.extend); exact rfl) | ((with_reducible apply BV.augI); exact rfl) | ((with_reducible apply BV.truO); exact rfl) | (with_reducible refine BV.dropE ?_)
  | ((with_reducible apply BV.var); exact rfl) | (with_reducible refine BV.cInt ?_) | (with_reducible refine BV.cStr ?_) | (with_reducible refine BV.cBl ?_) | (with_reducible refine BV.cNon ?_) | (with_reducible refine BV.cRaw ?_)
  | ((with_reducible refine BV.isiT2 ?h1 ?h2 ?_); (case h1 => decide +kernel); (case h2 => decide +kernel)) | ((with_reducible refine And.intro (show isPlainB _ = true from ?hz) ?_); (case hz => exact rfl)) | ((with_reducible refine BV.listVals ?hu ?_); (case hu => trivial))
  | (with_reducible refine BV.nil ?_) | (with_reducible refine BV.cons ?_) | (with_reducible refine BV.tup ?_) | (with_reducible refine BV.lst ?_) | (with_reducible refine BV.op ?_) | (with_reducible refine BV.un ?_) | (with_reducible refine BV.thn_ ?_) | (with_reducible refine BV.cb ?_)
  | (with_reducible refine BV.call ?_) | (with_reducible refine BV.callLo ?_) | (with_reducible refine BV.callW ?_) | (with_reducible refine BV.callLoW ?_) | (with_reducible refine BV.ifE ?_) | (with_reducible refine BV.andV ?_) | (with_reducible refine BV.orV ?_) | (with_reducible refine BV.notV ?_) | (with_reducible refine BV.chain ?_) | (with_reducible refine BV.sl ?_) | (with_reducible refine BV.noP ?_) | (with_reducible refine BV.part ?_) | (with_reducible refine BV.bm0S ?_) | (with_reducible refine BV.strJoin ?_)
  | (with_reducible refine BV.tB_ ?_) | (with_reducible refine BV.test ?_) | (with_reducible refine BV.and_ ?_) | (with_reducible refine BV.or_ ?_) | (with_reducible refine BV.not_ ?_) | (with_reducible refine BV.yes ?_)
  | (with_reducible refine BV.i0 ?_) | (with_reducible refine BV.i0b ?_) | (with_reducible refine BV.eqS ?_) | (with_reducible refine BV.eqI ?_) | (with_reducible refine BV.neS ?_) | (with_reducible refine BV.neI ?_) | (with_reducible refine BV.neB ?_)
  | ((with_reducible apply BV.ixT); exact rfl) | (with_reducible refine BV.ixT BV.at0' ?_) | ((with_reducible apply BV.ixL); exact rfl)
  | (with_reducible refine BV.lenL ?_) | (with_reducible refine BV.lenT ?_) | ((with_reducible apply BV.lenO); exact rfl)
  | (with_reducible refine BV.slT ?_) | (with_reducible refine BV.int1 ?_) | (with_reducible refine BV.tupOfL ?_) | (with_reducible refine BV.tupOfT ?_) | (with_reducible refine BV.listOfL ?_) | (with_reducible refine BV.listOfT ?_) | (with_reducible refine BV.min2 ?_)
  | ((with_reducible refine BV.isi ?hh ?hp ?_); (case hh => decide +kernel); (case hp => exact rfl)) | ((with_reducible refine BV.isN ?hp ?_); (case hp => exact rfl)) | ((with_reducible refine BV.notN ?hp ?_); (case hp => exact rfl))
  | (with_reducible refine BV.exBl ?_) | (with_reducible refine BV.exInt ?_) | (with_reducible refine BV.exLst ?_) | (with_reducible refine BV.exTup ?_) | (with_reducible refine BV.exStr ?_) | (with_reducible refine BV.exZip ?_)
  | (with_reducible refine RD.ifT ?_) | (with_reducible refine RD.ifF ?_) | (with_reducible refine RD.ifNT ?_) | (with_reducible refine RD.ifNF ?_)
  | ((with_reducible refine And.intro (show List.length _ ≤ sizeLine from ?hz) ?_); (case hz => exact Nat.le_of_ble_eq_true rfl)) | ((with_reducible refine And.intro (show List.length _ < sizeLine from ?hz) ?_); (case hz => exact Nat.le_of_ble_eq_true rfl))
  | ((with_reducible refine RD.ifDT ?hd ?_); (case hd => first | decide +kernel | exact rfl)) | ((with_reducible refine RD.ifDF ?hd ?_); (case hd => first | decide +kernel | exact rfl))
  | ((with_reducible refine BV.catT ?hz ?_); (case hz => exact Nat.le_of_ble_eq_true rfl)) | ((with_reducible refine BV.catL ?hz ?_); (case hz => exact Nat.le_of_ble_eq_true rfl))
  | (with_reducible refine BV.wlist ?_) | (with_reducible refine BV.wtup ?_) | (with_reducible refine BV.wstr ?_) | (with_reducible refine BV.wrng1 ?_) | (with_reducible refine BV.wrng2 ?_) | (with_reducible refine BV.wzip ?_) | (with_reducible refine BV.wenum ?_)
  | (with_reducible refine BV.lcNil ?_) | (with_reducible refine BV.lcCons ?_) | (with_reducible refine BV.forNil ?_) | (with_reducible refine BV.forCons ?_) | (with_reducible refine BV.joined ?_) | (with_reducible refine BV.jsCons ?_) | (with_reducible refine BV.jsNil ?_) | (with_reducible refine BV.fmtS ?_) | (with_reducible refine BV.str2S ?_) | (with_reducible refine BV.neg1 ?_) | (with_reducible refine BV.ofN (BV.dNew ?_))
  | (with_reducible refine BV.gname ?_) | (with_reducible refine BV.gnil ?_) | (with_reducible refine BV.gcons ?_) | ((with_reducible apply BV.gtup); exact rfl)
  | ((with_reducible refine BV.vname ?hh ?_); (case hh => decide)) | (with_reducible refine BV.vnil ?_) | (with_reducible refine BV.vcons ?_) | ((with_reducible apply BV.vtup); exact rfl)
  | (with_reducible refine BV.dget ?_) | (with_reducible refine BV.din ?_) | (with_reducible refine BV.dnotin ?_))
local macro_rules | `(tactic| walk_at "bv") => `(tactic| repeat walk_at "bv1")

theorem sc__law_due : FnScope ["_law_event_here", "_law_parts", "_law_part"] ["_law_event_here"] (defScope (topS 35)) := ⟨rfl, rfl, rfl, by decide +kernel, rfl, by decide +kernel, by decide +kernel⟩
theorem ok_due (T : TxtE K mg) {f : Addr} {fd : FuncData} (F : Fun K "_law_due" "_law_due" (topS 35) f fd) : FnOk P w K mg base CX0 1 f fd ["_law_event_here"] (SpB G3.lo K WDue) := by
  refine F.ok sc__law_due (fun vs H Q E h => spLen (fun bs R hW => by obtain ⟨x, ws, rfl, _⟩ := hW; rfl) h) (fun cdv A outer s H vs Q E hr h => ?_)
  refine ⟨_, (pss_cons (ps_set (i := 1) sc__law_due.nd rfl (Or.inl rfl) (pe_lst (pa_cons (pe_ix ix_tup (pv 0) pe_int (fun _ _ => rfl)) pa_nil)))
      (pss_cons (ps_for PassesOwn.never rfl (pi_tup (pe_slice sl_tupA (pv 0) (po_some pe_int) po_none)) (pg_name (i := 2) sc__law_due.nd rfl (Or.inl rfl)) (pss_one (ps_if (pt_val (pe_callB call_isi (by rfl) T.b_isinstance (by decide +kernel) (pa_cons (pv 2) (pa_cons (pe_bltn (v := .ty "tuple") (by rfl) T.b_tuple (by decide +kernel) rfl) pa_nil)))) (pss_cons (ps_if (pt_cmpR op_eq (pe_ix ix_tup (pv 2) pe_int (fun _ _ => rfl)) pe_str (nomark _)) (pss_one (ps_expr (pe_bm PySem.F.plainAttrs_list PySem.F.slot_list_append PySem.F.type_list_append mt_append (pv 1) (pa_cons (pe_op op_add_str pe_str (pe_ix ix_tup (pv 2) pe_int (fun _ _ => rfl))) pa_nil)))) (pss_one (ps_expr (pe_bm PySem.F.plainAttrs_list PySem.F.slot_list_append PySem.F.type_list_append mt_append (pv 1) (pa_cons (pe_ix ix_tup (pv 2) pe_int (fun _ _ => rfl)) pa_nil)))))
      (pss_one (ps_if (pt_cmpR op_eq (pe_ix ix_tup (pv 2) pe_int (fun _ _ => rfl)) pe_str (nomark _)) (pss_one (ps_expr (pe_bm PySem.F.plainAttrs_list PySem.F.slot_list_append PySem.F.type_list_append mt_append (pv 1) (pa_cons (pe_callTy G8.call_str2 (by rfl) T.b_str (by decide +kernel) (pa_cons (pe_ix ix_tup (pv 2) pe_int (fun _ _ => rfl)) pa_nil)) pa_nil)))) pss_nil))) (pss_one (ps_if (pt_val (pe_callB call_isi (by rfl) T.b_isinstance (by decide +kernel) (pa_cons (pv 2) (pa_cons (pe_bltn (v := .ty "str") (by rfl) T.b_str (by decide +kernel) rfl) pa_nil)))) (pss_one (ps_expr (pe_bm PySem.F.plainAttrs_list PySem.F.slot_list_append PySem.F.type_list_append mt_append (pv 1) (pa_cons (pv 2) pa_nil)))) (pss_one (ps_expr (pe_bm PySem.F.plainAttrs_list PySem.F.slot_list_append PySem.F.type_list_append mt_append (pv 1) (pa_cons (pe_callTy G8.call_str2 (by rfl) T.b_str (by decide +kernel) (pa_cons (pv 2) pa_nil)) pa_nil)))))))))
      (pss_one (ps_ret (pe_join pe_str (pv 1)))))), ?_⟩
  refine body h _ fun bs R hW hl => ?_
  obtain ⟨e, ws, rfl, hw, hq⟩ := hW
  change bwS G3.lo K _ [.sh (e), .no, .no] _
  try dsimp only [cxOf, Cx.nox]
  obtain ⟨g1, g2, g3⟩ := ew_ok hw
  obtain ⟨z, ds, rest, rfl, rfl, hz, hp, hd3⟩ := ew_parts hw
  have lM := sizeLine_eq
  refine BV.seq (BV.asgN (BV.lstN ?_))
  walk_at "bv"
  refine forI ?_
  walk_at "bv"
  have e1 : cutB (.str z :: ds) (some 1) none = ds := cut1
  rw [e1]
  refine ⟨fun k Γ' => ∃ c : Cell, Γ' = [.sh (.tup (.str z :: ds)), .ow (.lst (([z] ++ (rest.take k).flatten).map B.str)), c], ⟨_, rfl⟩, fun k d Γ' hd hI => ?_, fun Γ' hI => ?_⟩
  · obtain ⟨c, rfl⟩ := hI
    obtain ⟨a, ha, pa⟩ := paired_at hp hd
    have nx : ∀ ys : List B, ys = ([z] ++ (rest.take k).flatten).map B.str ++ a.map B.str → ∃ c : Cell, [Cell.sh (.tup (.str z :: ds)), .ow (.lst ys), .sh d] = [.sh (.tup (.str z :: ds)), .ow (.lst (([z] ++ (rest.take (k + 1)).flatten).map B.str)), c] := fun ys hy => by
      refine ⟨.sh d, ?_⟩
      rw [hy, List.take_succ, ha, List.flatten_append]
      simp
    have l6 : (rest.flatten).length ≤ 6 := by rw [List.flatten_cons, List.length_append] at g2; omega
    have l7 := take_flat (l := rest) (n := k)
    have hlen : (([z] ++ (rest.take k).flatten).map B.str).length ≤ 7 := by
      rw [List.length_map, List.length_append, List.length_singleton]
      omega
    generalize ([z] ++ (rest.take k).flatten).map B.str = acc at nx hlen ⊢
    cases pa with
    | str y h =>
      walk_at "bv"
      exact ⟨by omega, nx _ rfl⟩
    | num n h =>
      walk_at "bv"
      refine str2I (num_log h) ?_
      exact ⟨by omega, nx _ rfl⟩
    | val _ _ h =>
      cases h with
      | none =>
        walk_at "bv"
        refine ⟨by omega, ?_⟩
        walk_at "bv"
        exact nx _ rfl
      | me =>
        walk_at "bv"
        refine ⟨by omega, ?_⟩
        walk_at "bv"
        exact nx _ rfl
      | other n h =>
        walk_at "bv"
        refine ⟨by omega, ?_⟩
        walk_at "bv"
        refine str2I (num_log h) ⟨by rw [List.length_append, List.length_singleton]; omega, ?_⟩
        exact nx _ (by rw [List.append_assoc]; rfl)
      | word y h =>
        walk_at "bv"
        refine catS (by
          have := h.name.2.2
          have e : ("'" : Str).length = 1 := by decide +kernel
          rw [e]
          omega) ?_
        refine ⟨by omega, ?_⟩
        walk_at "bv"
        exact nx _ rfl
  · obtain ⟨c, rfl⟩ := hI
    refine frz 1 rfl ?_
    walk_at "bv"
    have hk : rest.take ds.length = rest := by
      rw [Paired.length hp]
      exact List.take_length
    rw [hk]
    exact ⟨[z] ++ rest.flatten, rfl, jsz g3 (Nat.le_trans g2 (by decide)), hq⟩
end
end SF

set_option Elab.async false
set_option linter.all false
set_option maxRecDepth 100000
set_option maxHeartbeats 8000000
/-! k85: _law_spoiled -/
namespace SF
open PySem PySem.Spec PyProof.Rows L2 G0 BV
open C8 (Cal Mak Met pe_c pe_mk pe_mt pe_mt0 pe_gc)
/-- no number of an event; small -/
def badNum (b : B) : Bool := !isNumB b && (smB 3 b && decide (szB b ≤ 3))
def badName (b : B) : Bool := !nameB b && (smB 3 b && decide (szB b ≤ 3))
def badKind (b : B) : Bool := (match b with | .str k => (formsE.lookup k).isNone | _ => true) && (smB 3 b && decide (szB b ≤ 3))
def badVal (b : B) : Bool := !isValB b && (smB 6 b && decide (szB b ≤ 10))
/-- what is no event, and may be told of -/
structure NoEv (b : B) : Prop where
  no : isEvB b = false
  pl : isPlainB b = true
  sm : ∀ ds, b = .tup ds → smB 12 b = true ∧ ds.length ≤ 1000
  cp : CpOk b
theorem sm_le {n m : Nat} {x : B} (h : smB n x = true) (hm : n ≤ m) : smB m x = true := by
  obtain ⟨k, rfl⟩ := Nat.le.dest hm
  clear hm
  induction k with
  | zero => exact h
  | succ k ih => exact sm_up ih
theorem smsB_le {n m : Nat} {ds : List B} (h : smsB n ds = true) (hm : n ≤ m) : smsB m ds = true := by
  obtain ⟨k, rfl⟩ := Nat.le.dest hm
  clear hm
  induction k with
  | zero => exact h
  | succ k ih => exact sms_up ih
mutual
theorem sm_cp : ∀ {n : Nat} {x : B}, smB n x = true → cpB n x = true
  | n, .non, h => h
  | n, .bl _, h => h
  | n, .int _, h => h
  | n, .str z, h => by
    rw [smB, Bool.and_eq_true] at h
    rw [cpB]
    · exact h.1
    all_goals (intros; simp_all)
  | n, .tup ds, h => by
    rw [smB, Bool.and_eq_true] at h
    rw [cpB, Bool.and_eq_true]
    exact ⟨h.1, sms_cp h.2⟩
  | n, .lst ds, h => by
    rw [smB, Bool.and_eq_true] at h
    rw [cpB, Bool.and_eq_true]
    exact ⟨h.1, sms_cp h.2⟩
  | n, .dct _ _, h => by simp [smB] at h
  | n, .src, h => by simp [smB] at h
  | n, .raw _, h => by simp [smB] at h
  | n, .xc _ _ _ _, h => by simp [smB] at h
theorem sms_cp : ∀ {n : Nat} {ds : List B}, smsB n ds = true → cpsB n ds = true
  | n, [], h => by rw [cpsB]
  | n, d :: ds, h => by
    rw [smsB, Bool.and_eq_true] at h
    rw [cpsB, Bool.and_eq_true]
    exact ⟨sm_cp h.1, sms_cp h.2⟩
end
theorem sp_tup {ds : List B} (no : isEvB (.tup ds) = false) (hs : smsB 11 ds = true) (hl : ds.length ≤ 1000) (hz : szsB ds ≤ 99999) : NoEv (.tup ds) := by
  have h12 : smB 12 (.tup ds) = true := by
    rw [smB, Bool.and_eq_true]
    exact ⟨rfl, hs⟩
  exact ⟨no, rfl, fun es e => by cases e; exact ⟨h12, hl⟩, sm_cp h12, by rw [szB]; omega⟩
theorem part_v {v : B} : partB "value" v = isValB v := by
  rw [partB, if_neg (by decide +kernel), if_neg (by decide +kernel)]
theorem part_n {v : B} : partB "number" v = isNumB v := by
  rw [partB, if_pos rfl]
theorem part_m {v : B} : partB "name" v = nameB v := by
  rw [partB, if_neg (by decide +kernel), if_pos rfl]
theorem look_g : formsE.lookup ("gives" : Str) = some (["value"] : List Str) := by decide +kernel
theorem look_t : formsE.lookup ("throws" : Str) = some (["value"] : List Str) := by decide +kernel
theorem look_c : formsE.lookup ("calls" : Str) = some (["number", "value", "value"] : List Str) := by decide +kernel
theorem look_a : formsE.lookup ("asks" : Str) = some (["name", "value", "value"] : List Str) := by decide +kernel
theorem ev_of {k : Str} {fs : List Str} {ps : List B} (h : formsE.lookup k = some fs) : isEvB (.tup (.str k :: ps)) = (decide (ps.length = fs.length) && (fs.zip ps).all fun q => partB q.1 q.2) := by
  rw [isEvB, h]
theorem ev_len {k : Str} {fs : List Str} {ps : List B} (h : formsE.lookup k = some fs) (hl : ps.length ≠ fs.length) : isEvB (.tup (.str k :: ps)) = false := by
  rw [ev_of h, decide_eq_false hl]
  rfl
theorem ev_gives {v : B} : isEvB (.tup [.str "gives", v]) = isValB v := by
  rw [ev_of look_g]
  simp [part_v]
theorem ev_throws {v : B} : isEvB (.tup [.str "throws", v]) = isValB v := by
  rw [ev_of look_t]
  simp [part_v]
theorem ev_calls {n v u : B} : isEvB (.tup [.str "calls", n, v, u]) = (isNumB n && (isValB v && isValB u)) := by
  rw [ev_of look_c]
  simp [part_v, part_n]
theorem ev_asks {n v u : B} : isEvB (.tup [.str "asks", n, v, u]) = (nameB n && (isValB v && isValB u)) := by
  rw [ev_of look_a]
  simp [part_v, part_m]
theorem ev_kind {d : B} {ps : List B} (h : badKind d = true) : isEvB (.tup (d :: ps)) = false := by
  unfold badKind at h
  rw [Bool.and_eq_true] at h
  cases d with
  | str k =>
    have h1 : (formsE.lookup k).isNone = true := h.1
    rw [isEvB]
    cases e : formsE.lookup k with
    | none => rfl
    | some fs => rw [e] at h1; cases h1
  | _ => rfl
/-- a small part -/
structure Sm (b : B) : Prop where
  s : smB 11 b = true
  z : szB b ≤ 10
theorem Sm.str {z : Str} (h : smB 3 (.str z) = true) : Sm (.str z) := ⟨sm_le h (by decide), by simp [szB]⟩
theorem nm_sm {z : Str} (h : Nm z) : smB 3 (.str z) = true := by
  rw [smB, Bool.and_eq_true, Bool.and_eq_true]
  have h8 := h.name.2.2
  refine ⟨rfl, decide_eq_true (by omega), ?_⟩
  obtain ⟨l, rfl, _, _, hc⟩ := h
  rw [Array.all_eq_true_iff_forall_mem]
  intro c hm
  have hm' : c ∈ codes := hc c (by simpa using hm)
  have : ∀ c ∈ codes, c < 0x110000 := by decide
  exact decide_eq_true (this c hm')
theorem vb_sm {v : B} (h : VB v) : smB 3 v = true ∧ szB v ≤ 3 ∧ isValB v = true := by
  cases h with
  | none => exact ⟨by decide +kernel, by decide +kernel, by decide +kernel⟩
  | me => exact ⟨by decide +kernel, by decide +kernel, by decide +kernel⟩
  | other n h =>
    have e3 : smB 2 (.str "other") = true := by decide +kernel
    refine ⟨by rw [smB, smsB, smsB, smsB, e3]; rfl, by simp [szB, szsB], ?_⟩
    have e1 : isStrB (.str "other") "word" = false := by decide +kernel
    have e2 : isStrB (.str "other") "other" = true := by decide +kernel
    rw [isValB, e1, e2, if_neg Bool.false_ne_true, if_pos rfl]
    show (decide (0 ≤ (n : Int)) && decide ((n : Int) ≤ 999999)) = true
    rw [decide_eq_true (by omega), decide_eq_true (by omega)]
    rfl
  | word z h =>
    have hz := nm_sm h
    refine ⟨?_, by simp [szB, szsB], ?_⟩
    · have e3 : smB 2 (.str "word") = true := by decide +kernel
      have e4 : smB 2 (.str z) = true := by
        rw [smB, Bool.and_eq_true] at hz ⊢
        exact ⟨rfl, hz.2⟩
      rw [smB, smsB, smsB, smsB, e3, e4]
      rfl
    · have e1 : isStrB (.str "word") "word" = true := by decide +kernel
      rw [isValB, e1, if_pos rfl]
      exact h.name.1
theorem VB.sm {v : B} (h : VB v) : Sm v := ⟨sm_le (vb_sm h).1 (by decide), Nat.le_trans (vb_sm h).2.1 (by decide)⟩
theorem eb_sm {ds : List B} (h : EB (.tup ds)) : smsB 4 ds = true ∧ szsB ds ≤ 20 := by
  have up : ∀ {v : B}, VB v → smB 4 v = true ∧ szB v ≤ 3 := fun h => ⟨sm_up (vb_sm h).1, (vb_sm h).2.1⟩
  have k1 : smB 4 (.str "gives") = true := by decide +kernel
  have k2 : smB 4 (.str "throws") = true := by decide +kernel
  have k3 : smB 4 (.str "calls") = true := by decide +kernel
  have k4 : smB 4 (.str "asks") = true := by decide +kernel
  cases h with
  | gives v hv =>
    obtain ⟨a1, a2⟩ := up hv
    refine ⟨by rw [smsB, smsB, smsB, k1, a1]; rfl, by simp [szB, szsB]; omega⟩
  | throws v hv =>
    obtain ⟨a1, a2⟩ := up hv
    refine ⟨by rw [smsB, smsB, smsB, k2, a1]; rfl, by simp [szB, szsB]; omega⟩
  | calls n hn v u hv hu =>
    obtain ⟨a1, a2⟩ := up hv
    obtain ⟨b1, b2⟩ := up hu
    have c1 : smB 4 (.int n) = true := by rw [smB]; rfl
    refine ⟨by rw [smsB, smsB, smsB, smsB, smsB, k3, c1, a1, b1]; rfl, by simp [szB, szsB]; omega⟩
  | asks z hz v u hv hu =>
    obtain ⟨a1, a2⟩ := up hv
    obtain ⟨b1, b2⟩ := up hu
    have c1 : smB 4 (.str z) = true := sm_up (nm_sm hz)
    refine ⟨by rw [smsB, smsB, smsB, smsB, smsB, k4, c1, a1, b1]; rfl, by simp [szB, szsB]; omega⟩
theorem VB.tup {v : B} (h : VB v) : ∃ es, v = .tup es := by cases h <;> exact ⟨_, rfl⟩
theorem kind_sm {d : B} (h : badKind d = true) : Sm d := by
  unfold badKind at h
  rw [Bool.and_eq_true, Bool.and_eq_true] at h
  exact ⟨sm_le h.2.1 (by decide), Nat.le_trans (of_decide_eq_true h.2.2) (by decide)⟩
theorem sp_list {ds : List B} (hs : smsB 11 ds = true) (hl : ds.length ≤ 1000) (h : ∀ b ∈ ds, Sm b) (hn : ds.length ≤ 9) (no : isEvB (.tup ds) = false) : NoEv (.tup ds) := by
  refine sp_tup no hs hl ?_
  have : ∀ xs : List B, (∀ b ∈ xs, Sm b) → szsB xs ≤ 10 * xs.length := fun xs => by
    induction xs with
    | nil => intro _; exact Nat.zero_le _
    | cons x xs ih =>
      intro k
      have h1 := (k x (by simp)).z
      have h2 := ih fun b hb => k b (List.mem_cons_of_mem _ hb)
      rw [szsB, List.length_cons]
      omega
  have := this ds h
  omega
theorem sp1 {a : B} (ha : Sm a) (no : isEvB (.tup [a]) = false) : NoEv (.tup [a]) := sp_list (by rw [smsB, smsB, ha.s]; rfl) (Nat.le_of_ble_eq_true rfl) (fun x hx => by rw [List.mem_singleton.mp hx]; exact ha) (Nat.le_of_ble_eq_true rfl) no
theorem sp2 {a b : B} (ha : Sm a) (hb : Sm b) (no : isEvB (.tup [a, b]) = false) : NoEv (.tup [a, b]) := sp_list (by rw [smsB, smsB, smsB, ha.s, hb.s]; rfl) (Nat.le_of_ble_eq_true rfl) (fun x hx => by
  have : x = a ∨ x = b := by simpa using hx
  rcases this with rfl | rfl <;> assumption) (Nat.le_of_ble_eq_true rfl) no
theorem sp3 {a b c : B} (ha : Sm a) (hb : Sm b) (hc : Sm c) (no : isEvB (.tup [a, b, c]) = false) : NoEv (.tup [a, b, c]) := sp_list (by rw [smsB, smsB, smsB, smsB, ha.s, hb.s, hc.s]; rfl) (Nat.le_of_ble_eq_true rfl) (fun x hx => by
  have : x = a ∨ x = b ∨ x = c := by simpa using hx
  rcases this with rfl | rfl | rfl <;> assumption) (Nat.le_of_ble_eq_true rfl) no
theorem sp4 {a b c d : B} (ha : Sm a) (hb : Sm b) (hc : Sm c) (hd : Sm d) (no : isEvB (.tup [a, b, c, d]) = false) : NoEv (.tup [a, b, c, d]) := sp_list (by rw [smsB, smsB, smsB, smsB, smsB, ha.s, hb.s, hc.s, hd.s]; rfl) (Nat.le_of_ble_eq_true rfl) (fun x hx => by
  have : x = a ∨ x = b ∨ x = c ∨ x = d := by simpa using hx
  rcases this with rfl | rfl | rfl | rfl <;> assumption) (Nat.le_of_ble_eq_true rfl) no
theorem sp5 {a b c d e : B} (ha : Sm a) (hb : Sm b) (hc : Sm c) (hd : Sm d) (he : Sm e) (no : isEvB (.tup [a, b, c, d, e]) = false) : NoEv (.tup [a, b, c, d, e]) := sp_list (by rw [smsB, smsB, smsB, smsB, smsB, smsB, ha.s, hb.s, hc.s, hd.s, he.s]; rfl) (Nat.le_of_ble_eq_true rfl) (fun x hx => by
  have : x = a ∨ x = b ∨ x = c ∨ x = d ∨ x = e := by simpa using hx
  rcases this with rfl | rfl | rfl | rfl | rfl <;> assumption) (Nat.le_of_ble_eq_true rfl) no
theorem sp_flat {b : B} (no : isEvB b = false) (pl : isPlainB b = true) (nt : ∀ ds, b ≠ .tup ds) (c : cpB 12 b = true) (z : szB b ≤ 100000) : NoEv b := ⟨no, pl, fun ds e => absurd e (nt ds), c, z⟩
def WSpoil (bs : List B) (R : B → Prop) : Prop := ∃ e, bs = [.src, e] ∧ EB e ∧ ∀ b, NoEv b → R b
section
variable {P : Program} {w : World} {K : PySem.W.Frag} {mg : Str → Option Value} {base : Heap}
set_option Elab.async false
set_option linter.all false
set_option maxRecDepth 100000
set_option maxHeartbeats 4000000
local macro_rules | `(tactic| walk_at "bv1") => `(tactic| first
  | (with_reducible refine BV.seq ?_) | (with_reducible refine BV.next ?_) | (with_reducible refine BV.ifS ?_) | ((with_reducible apply BV.retO); exact rfl) | (with_reducible refine BV.ret ?_) | (with_reducible refine BV.retN ?_) | ((with_reducible apply BV.asgPop); exact rfl) | (with_reducible refine BV.asgL0 ?_) | (with_reducible refine BV.asgD0 ?_) | (with_reducible refine BV.asg ?_) | (with_reducible refine BV.asgG ?_)
  | ((with_reducible apply BV.append); exact rfl) | ((with_reducible apply BV.extend); exact rfl) | ((with_reducible apply BV.augI); exact rfl) | ((with_reducible apply BV.truO); exact rfl) | (with_reducible refine BV.dropE ?_)
  | ((with_reducible apply BV.var); exact rfl) | (with_reducible refine BV.cInt ?_) | (with_reducible refine BV.cStr ?_) | (with_reducible refine BV.cBl ?_) | (with_reducible refine BV.cNon ?_) | (with_reducible refine BV.cRaw ?_)
  | ((with_reducible refine BV.isiT2 ?h1 ?h2 ?_); (case h1 => decide +kernel); (case h2 => decide +kernel)) | ((with_reducible refine And.intro (show isPlainB _ = true from ?hz) ?_); (case hz => exact rfl)) | ((with_reducible refine BV.listVals ?hu ?_); (case hu => trivial))
  | (with_reducible refine BV.nil ?_) | (with_reducible refine BV.cons ?_) | (with_reducible refine BV.tup ?_) | (with_reducible refine BV.lst ?_) | (with_reducible refine BV.op ?_) | (with_reducible refine BV.un ?_) | (with_reducible refine BV.thn_ ?_) | (with_reducible refine BV.cb ?_)
  | (with_reducible refine BV.call ?_) | (with_reducible refine BV.callLo ?_) | (with_reducible refine BV.callW ?_) | (with_reducible refine BV.callLoW ?_) | (with_reducible refine BV.ifE ?_) | (with_reducible refine BV.andV ?_) | (with_reducible refine BV.orV ?_) | (with_reducible refine BV.notV ?_) | (with_reducible refine BV.chain ?_) | (with_reducible refine BV.sl ?_) | (with_reducible refine BV.noP ?_) | (with_reducible refine BV.part ?_) | (with_reducible refine BV.bm0S ?_) | (with_reducible refine BV.strJoin ?_)
  | (with_reducible refine BV.tB_ ?_) | (with_reducible refine BV.test ?_) | (with_reducible refine BV.and_ ?_) | (with_reducible refine BV.or_ ?_) | (with_reducible refine BV.not_ ?_) | (with_reducible refine BV.yes ?_)
  | (with_reducible refine BV.i0 ?_) | (with_reducible refine BV.i0b ?_) | (with_reducible refine BV.eqS ?_) | (with_reducible refine BV.eqI ?_) | (with_reducible refine BV.neS ?_) | (with_reducible refine BV.neI ?_) | (with_reducible refine BV.neB ?_)
  | ((with_reducible apply BV.ixT); exact rfl) | (with_reducible refine BV.ixT BV.at0' ?_) | ((with_reducible apply BV.ixL); exact rfl)
  | (with_reducible refine BV.lenL ?_) | (with_reducible refine BV.lenT ?_) | ((with_reducible apply BV.lenO); exact rfl)
  | (with_reducible refine BV.slT ?_) | (with_reducible refine BV.int1 ?_) | (with_reducible refine BV.tupOfL ?_) | (with_reducible refine BV.tupOfT ?_) | (with_reducible refine BV.listOfL ?_) | (with_reducible refine BV.listOfT ?_) | (with_reducible refine BV.min2 ?_)
  | ((with_reducible refine BV.isi ?hh ?hp ?_); (case hh => decide +kernel); (case hp => exact rfl)) | ((with_reducible refine BV.isN ?hp ?_); (case hp => exact rfl)) | ((with_reducible refine BV.notN ?hp ?_); (case hp => exact rfl))
  | (with_reducible refine BV.exBl ?_) | (with_reducible refine BV.exInt ?_) | (with_reducible refine BV.exLst ?_) | (with_reducible refine BV.exTup ?_) | (with_reducible refine BV.exStr ?_) | (with_reducible refine BV.exZip ?_)
  | (with_reducible refine RD.ifT ?_) | (with_reducible refine RD.ifF ?_) | (with_reducible refine RD.ifNT ?_) | (with_reducible refine RD.ifNF ?_)
  | ((with_reducible refine And.intro (show List.length _ ≤ sizeLine from ?hz) ?_); (case hz => exact Nat.le_of_ble_eq_true rfl)) | ((with_reducible refine And.intro (show List.length _ < sizeLine from ?hz) ?_); (case hz => exact Nat.le_of_ble_eq_true rfl))
  | ((with_reducible refine RD.ifDT ?hd ?_); (case hd => first | decide +kernel | exact rfl)) | ((with_reducible refine RD.ifDF ?hd ?_); (case hd => first | decide +kernel | exact rfl))
  | ((with_reducible refine BV.catT ?hz ?_); (case hz => exact Nat.le_of_ble_eq_true rfl)) | ((with_reducible refine BV.catL ?hz ?_); (case hz => exact Nat.le_of_ble_eq_true rfl))
  | (with_reducible refine BV.wlist ?_) | (with_reducible refine BV.wtup ?_) | (with_reducible refine BV.wstr ?_) | (with_reducible refine BV.wrng1 ?_) | (with_reducible refine BV.wrng2 ?_) | (with_reducible refine BV.wzip ?_) | (with_reducible refine BV.wenum ?_)
  | (with_reducible refine BV.lcNil ?_) | (with_reducible refine BV.lcCons ?_) | (with_reducible refine BV.forNil ?_) | (with_reducible refine BV.forCons ?_) | (with_reducible refine BV.joined ?_) | (with_reducible refine BV.jsCons ?_) | (with_reducible refine BV.jsNil ?_) | (with_reducible refine BV.fmtS ?_) | (with_reducible refine BV.str2S ?_) | (with_reducible refine BV.neg1 ?_) | (with_reducible refine BV.ofN (BV.dNew ?_))
  | (with_reducible refine BV.gname ?_) | (with_reducible refine BV.gnil ?_) | (with_reducible refine BV.gcons ?_) | ((with_reducible apply BV.gtup); exact rfl)
  | ((with_reducible refine BV.vname ?hh ?_); (case hh => decide)) | (with_reducible refine BV.vnil ?_) | (with_reducible refine BV.vcons ?_) | ((with_reducible apply BV.vtup); exact rfl)
  | (with_reducible refine BV.dget ?_) | (with_reducible refine BV.din ?_) | (with_reducible refine BV.dnotin ?_))
local macro_rules | `(tactic| walk_at "bv") => `(tactic| repeat walk_at "bv1")

theorem sc__law_spoiled : FnScope ["_law_source_here", "_law_event_here", "_law_choice", "_law_bad_number", "_law_bad_name", "_law_values", "_law_value_here", "_law_at"] ["_law_source_here", "_law_event_here"] (defScope (topS 36)) := ⟨rfl, rfl, rfl, by decide +kernel, rfl, by decide +kernel, by decide +kernel⟩
theorem ok_spoil (T : TxtE K mg) (c__law_draw : Cal P w K mg base 2 "_law_draw" (SpB G3.lo K WDraw) []) {f : Addr} {fd : FuncData} (F : Fun K "_law_spoiled" "_law_spoiled" (topS 36) f fd) : FnOk P w K mg base CX0 3 f fd ["_law_source_here", "_law_event_here"] (SpB G3 K WSpoil) := by
  refine F.ok sc__law_spoiled (fun vs H Q E h => spLen (fun bs R hW => by obtain ⟨x, rfl, _⟩ := hW; rfl) h) (fun cdv A outer s H vs Q E hr h => ?_)
  refine ⟨_, (pss_cons (ps_set (i := 2) sc__law_spoiled.nd rfl (Or.inl rfl) (pe_c c__law_draw hr (by decide) (by rfl) (pa_cons (pv 0) (pa_cons pe_int pa_nil))))
      (pss_cons (ps_set (i := 3) sc__law_spoiled.nd rfl (Or.inl rfl) (pe_ix ix_list (pe_lst (pa_cons (pe_un un_neg pe_int) (pa_cons (pe_op op_pow pe_int pe_int) (pa_cons pe_bl (pa_cons pe_bl (pa_cons pe_str (pa_cons pe_non (pa_cons (pe_un un_neg (pe_op op_pow pe_int pe_int)) (pa_cons (pe_tup pa_nil) pa_nil))))))))) (pe_c c__law_draw hr (by decide) (by rfl) (pa_cons (pv 0) (pa_cons pe_int pa_nil))) (fun _ _ => rfl)))
      (pss_cons (ps_set (i := 4) sc__law_spoiled.nd rfl (Or.inl rfl) (pe_ix ix_list (pe_lst (pa_cons pe_str (pa_cons pe_str (pa_cons pe_str (pa_cons pe_str (pa_cons pe_str (pa_cons pe_int (pa_cons pe_non (pa_cons pe_bl (pa_cons (pe_tup (pa_cons pe_str pa_nil)) pa_nil)))))))))) (pe_c c__law_draw hr (by decide) (by rfl) (pa_cons (pv 0) (pa_cons pe_int pa_nil))) (fun _ _ => rfl)))
      (pss_cons (ps_set (i := 5) sc__law_spoiled.nd rfl (Or.inl rfl) (pe_lst (pa_cons (pe_tup (pa_cons pe_str (pa_cons (pv 3) pa_nil))) (pa_cons (pe_tup (pa_cons pe_str (pa_cons (pv 4) pa_nil))) (pa_cons (pe_tup (pa_cons pe_str pa_nil)) (pa_cons (pe_tup (pa_cons pe_str pa_nil)) (pa_cons (pe_tup (pa_cons pe_str (pa_cons pe_int pa_nil))) (pa_cons (pe_tup (pa_cons pe_str (pa_cons (pe_tup pa_nil) pa_nil))) (pa_cons (pe_tup (pa_cons pe_str (pa_cons pe_int pa_nil))) (pa_cons (pe_tup (pa_cons pe_str (pa_cons pe_int pa_nil))) (pa_cons (pe_tup (pa_cons pe_str (pa_cons pe_str pa_nil))) (pa_cons (pe_lst (pa_cons pe_str pa_nil)) (pa_cons pe_str (pa_cons pe_int (pa_cons pe_non (pa_cons (pe_tup pa_nil) (pa_cons (pe_tup (pa_cons pe_str (pa_cons pe_str pa_nil))) (pa_cons (pe_tup (pa_cons pe_str (pa_cons pe_str (pa_cons pe_str pa_nil)))) (pa_cons (pe_tup (pa_cons (pe_tup (pa_cons pe_str pa_nil)) pa_nil)) pa_nil)))))))))))))))))))
      (pss_cons (ps_set (i := 6) sc__law_spoiled.nd rfl (Or.inl rfl) (pe_ix ix_list (pv 5) (pe_c c__law_draw hr (by decide) (by rfl) (pa_cons (pv 0) (pa_cons (pe_callB call_lenQ (by rfl) T.b_len PySem.boot_len (pa_cons (pv 5) pa_nil)) pa_nil))) (fun _ _ => rfl)))
      (pss_cons (ps_set (i := 7) sc__law_spoiled.nd rfl (Or.inl rfl) (pe_op op_add (pe_c c__law_draw hr (by decide) (by rfl) (pa_cons (pv 0) (pa_cons (pe_op op_sub (pe_callB call_lenQ (by rfl) T.b_len PySem.boot_len (pa_cons (pv 1) pa_nil)) pe_int) pa_nil))) pe_int))
      (pss_cons (ps_if (pt_cmpR op_eq (pv 2) pe_int (nomark _)) (pss_one (ps_ret (pe_ix ix_list (pe_lst (pa_cons (pe_callTy call_list_of (by rfl) T.b_list (by decide +kernel) (pa_cons (pv 1) pa_nil)) (pa_cons pe_dnewK (pa_cons pe_non (pa_cons pe_str (pa_cons pe_int (pa_cons (pe_tup pa_nil) (pa_cons pe_bl (pa_cons (pe_tup (pa_cons pe_str pa_nil)) (pa_cons (pe_tup (pa_cons (pv 1) pa_nil)) pa_nil)))))))))) (pe_c c__law_draw hr (by decide) (by rfl) (pa_cons (pv 0) (pa_cons pe_int pa_nil))) (fun _ _ => rfl)))) pss_nil)
      (pss_cons (ps_if (pt_cmpR op_eq (pv 2) pe_int (nomark _)) (pss_one (ps_ret (pe_op op_catA (pe_slice sl_tupA (pv 1) po_none (po_some (pv 7))) (pe_slice sl_tupA (pv 1) (po_some (pe_op op_add (pv 7) pe_int)) po_none)))) pss_nil)
      (pss_cons (ps_if (pt_cmpR op_eq (pv 2) pe_int (nomark _)) (pss_one (ps_ret (pe_op op_catA (pv 1) (pe_tup (pa_cons (pe_tup (pa_cons pe_str pa_nil)) pa_nil))))) pss_nil)
      (pss_cons (ps_if (pt_cmpR op_eq (pv 2) pe_int (nomark _)) (pss_one (ps_ret (pe_op op_catA (pe_tup (pa_cons (pe_ix ix_list (pe_lst (pa_cons pe_str (pa_cons pe_str (pa_cons pe_str (pa_cons pe_str (pa_cons pe_int (pa_cons pe_non (pa_cons (pe_tup (pa_cons pe_str pa_nil)) (pa_cons pe_str (pa_cons pe_str pa_nil)))))))))) (pe_c c__law_draw hr (by decide) (by rfl) (pa_cons (pv 0) (pa_cons pe_int pa_nil))) (fun _ _ => rfl)) pa_nil)) (pe_slice sl_tupA (pv 1) (po_some pe_int) po_none)))) pss_nil)
      (pss_cons (ps_if ((pw_and (pt_cmpR op_lt (pv 2) pe_int (nomark _)) (pw_and1 (pt_val (pe_callB call_isi (by rfl) T.b_isinstance (by decide +kernel) (pa_cons (pe_ix ix_tup (pv 1) (pv 7) (fun _ _ => rfl)) (pa_cons (pe_bltn (v := .ty "tuple") (by rfl) T.b_tuple (by decide +kernel) rfl) pa_nil))))))).pt (pss_one (ps_ret (pe_op op_catA (pe_op op_catA (pe_slice sl_tupA (pv 1) po_none (po_some (pv 7))) (pe_tup (pa_cons (pv 6) pa_nil))) (pe_slice sl_tupA (pv 1) (po_some (pe_op op_add (pv 7) pe_int)) po_none)))) pss_nil)
      (pss_cons (ps_if ((pw_and (pt_cmpR op_lt (pv 2) pe_int (nomark _)) (pw_and1 (pt_cmpR op_eq (pe_ix ix_tup (pv 1) pe_int (fun _ _ => rfl)) pe_str (nomark _))))).pt (pss_one (ps_ret (pe_op op_catA (pe_tup (pa_cons pe_str (pa_cons (pv 3) pa_nil))) (pe_slice sl_tupA (pv 1) (po_some pe_int) po_none)))) pss_nil)
      (pss_cons (ps_if (pt_cmpR op_eq (pe_ix ix_tup (pv 1) pe_int (fun _ _ => rfl)) pe_str (nomark _)) (pss_one (ps_ret (pe_op op_catA (pe_tup (pa_cons pe_str (pa_cons (pv 4) pa_nil))) (pe_slice sl_tupA (pv 1) (po_some pe_int) po_none)))) pss_nil)
      (pss_cons (ps_if (pt_cmpR op_eq (pe_ix ix_tup (pv 1) pe_int (fun _ _ => rfl)) pe_str (nomark _)) (pss_one (ps_ret (pe_tup (pa_cons pe_str (pa_cons (pv 3) (pa_cons (pv 6) (pa_cons (pe_ix ix_tup (pv 1) pe_int (fun _ _ => rfl)) pa_nil))))))) pss_nil)
      (pss_one (ps_ret (pe_tup (pa_cons (pe_ix ix_tup (pv 1) pe_int (fun _ _ => rfl)) (pa_cons (pv 6) pa_nil))))))))))))))))))), ?_⟩
  refine body h _ fun bs R hW hl => ?_
  obtain ⟨e, rfl, he, hq⟩ := hW
  change bwS G3 K _ [.sh (.src), .sh (e), .no, .no, .no, .no, .no, .no] _
  try dsimp only [cxOf, Cx.nox]
  walk_at "bv"
  refine ⟨9, rfl, by decide, by decide, fun ch hch => ?_⟩
  walk_at "bv"
  refine BV.i1 ⟨by decide, by decide, by decide⟩ ?_
  walk_at "bv"
  refine BV.i1 ⟨by decide, by decide, by decide⟩ ?_
  walk_at "bv"
  refine ⟨8, rfl, by decide, by decide, fun k1 hk1 => ?_⟩
  refine ixAll badNum hk1 (by decide +kernel) fun nb hnb => ?_
  walk_at "bv"
  refine ⟨9, rfl, by decide, by decide, fun k2 hk2 => ?_⟩
  refine ixAll badName hk2 (by decide +kernel) fun nn hnn => ?_
  walk_at "bv"
  refine ⟨17, rfl, by decide, by decide, fun k3 hk3 => ?_⟩
  have nb' := hnb
  have nn' := hnn
  unfold badNum at nb'
  unfold badName at nn'
  rw [Bool.and_eq_true, Bool.and_eq_true] at nb' nn'
  have bN : isNumB nb = false := by simpa using nb'.1
  have bM : nameB nn = false := by simpa using nn'.1
  have sN : Sm nb := ⟨sm_le nb'.2.1 (by decide), Nat.le_trans (of_decide_eq_true nb'.2.2) (by decide)⟩
  have sM : Sm nn := ⟨sm_le nn'.2.1 (by decide), Nat.le_trans (of_decide_eq_true nn'.2.2) (by decide)⟩
  have v1 : badVal (.tup [.str "other", nb]) = true := by
    have e1 : isStrB (.str "other") "word" = false := by decide +kernel
    have e2 : isStrB (.str "other") "other" = true := by decide +kernel
    have e3 : smB 5 (.str "other") = true := by decide +kernel
    have e4 : smB 5 nb = true := sm_le nb'.2.1 (by decide)
    have e5 := of_decide_eq_true nb'.2.2
    unfold badVal
    rw [isValB, e1, e2, if_neg Bool.false_ne_true, if_pos rfl, bN, smB, smsB, smsB, smsB, e3, e4]
    have e6 : szB (.tup [.str "other", nb]) ≤ 10 := by simp [szB, szsB]; omega
    rw [decide_eq_true e6]
    rfl
  have v2 : badVal (.tup [.str "word", nn]) = true := by
    have e1 : isStrB (.str "word") "word" = true := by decide +kernel
    have e3 : smB 5 (.str "word") = true := by decide +kernel
    have e4 : smB 5 nn = true := sm_le nn'.2.1 (by decide)
    have e5 := of_decide_eq_true nn'.2.2
    unfold badVal
    rw [isValB, e1, if_pos rfl, bM, smB, smsB, smsB, smsB, e3, e4]
    have e6 : szB (.tup [.str "word", nn]) ≤ 10 := by simp [szB, szsB]; omega
    rw [decide_eq_true e6]
    rfl
  refine ixAll badVal hk3 (by rw [List.all_cons, v1, List.all_cons, v2]; decide +kernel) fun vb hvb => ?_
  have vb' := hvb
  unfold badVal at vb'
  rw [Bool.and_eq_true, Bool.and_eq_true] at vb'
  have bV : isValB vb = false := by simpa using vb'.1
  have sV : Sm vb := ⟨sm_le vb'.2.1 (by decide), of_decide_eq_true vb'.2.2⟩
  have sX : Sm (.tup [.str "none"]) := ⟨by decide +kernel, by decide +kernel⟩
  obtain ⟨ds, rfl, hl2, hl4⟩ : ∃ ds, e = .tup ds ∧ 2 ≤ ds.length ∧ ds.length ≤ 4 := by
    cases he <;> exact ⟨_, rfl, Nat.le_of_ble_eq_true rfl, Nat.le_of_ble_eq_true rfl⟩
  walk_at "bv"
  refine ⟨ds.length - 1, by rw [show ((ds.length : Int) - 1) = ((ds.length - 1 : Nat) : Int) by omega], by omega, by omega, fun k4 hk4 => ?_⟩
  walk_at "bv"
  have g1 : Sm (.str "gives") := ⟨by decide +kernel, by decide +kernel⟩
  have g2 : Sm (.str "throws") := ⟨by decide +kernel, by decide +kernel⟩
  have g3 : Sm (.str "calls") := ⟨by decide +kernel, by decide +kernel⟩
  have g4 : Sm (.str "asks") := ⟨by decide +kernel, by decide +kernel⟩
  obtain ⟨s4, z20⟩ := eb_sm he
  have s11 : smsB 11 ds = true := by
    have := smsB_le s4 (show 4 ≤ 11 by decide)
    exact this
  have s10 : smsB 10 ds = true := smsB_le s4 (by decide)
  refine ite2 (fun c0 => ?_) (fun c0 => ?_)
  · walk_at "bv"
    refine ⟨9, rfl, by decide, by decide, fun k5 hk5 => ?_⟩
    refine ixAny hk5 fun d hd => hq d ?_
    have hd' : d = .lst ds ∨ d = .dct [] [] ∨ d = .non ∨ d = .str "gives 'a" ∨ d = .int 5 ∨ d = .tup [] ∨ d = .bl true ∨ d = .tup [.str "gives"] ∨ d = .tup [.tup ds] := by simpa using hd
    have z21 : szB (.lst ds) ≤ 100000 := by rw [szB]; omega
    have c12 : cpB 12 (.lst ds) = true := sm_cp (n := 12) (by rw [smB, s11]; rfl)
    rcases hd' with rfl | rfl | rfl | rfl | rfl | rfl | rfl | rfl | rfl
    · exact sp_flat rfl rfl (fun _ z => nomatch z) c12 z21
    · exact sp_flat rfl rfl (fun _ z => nomatch z) (by decide +kernel) (by decide +kernel)
    · exact sp_flat rfl rfl (fun _ z => nomatch z) (by decide +kernel) (by decide +kernel)
    · exact sp_flat rfl rfl (fun _ z => nomatch z) (by decide +kernel) (by decide +kernel)
    · exact sp_flat rfl rfl (fun _ z => nomatch z) (by decide +kernel) (by decide +kernel)
    · exact sp_tup rfl (by decide +kernel) (by decide) (by decide +kernel)
    · exact sp_flat rfl rfl (fun _ z => nomatch z) (by decide +kernel) (by decide +kernel)
    · exact sp1 g1 (ev_len look_g (by simp))
    · refine sp_tup rfl ?_ (Nat.le_of_ble_eq_true rfl) ?_
      · rw [smsB, smsB, smB, s10]
        rfl
      · rw [szsB, szsB, szB]
        omega
  · cases he with
    | gives v hv =>
      have sv := hv.sm
      obtain ⟨es, rfl⟩ := hv.tup
      obtain rfl : k4 = 0 := by
        have : k4 < 1 := hk4
        omega
      walk_at "bv"
      refine ite2 (fun c1 => ?_) (fun c1 => ?_)
      · walk_at "bv"
        exact hq (.tup [.str "gives"]) (sp1 g1 (ev_len look_g (by simp)))
      · walk_at "bv"
        refine ite2 (fun c2 => ?_) (fun c2 => ?_)
        · walk_at "bv"
          exact hq (.tup [.str "gives", .tup es, .tup [.str "none"]]) (sp3 g1 sv sX (ev_len look_g (by simp)))
        · walk_at "bv"
          refine ite2 (fun c3 => ?_) (fun c3 => ?_)
          · walk_at "bv"
            refine ⟨9, rfl, by decide, by decide, fun k5 hk5 => ?_⟩
            refine ixAll badKind hk5 (by decide +kernel) fun d hd => ?_
            walk_at "bv"
            exact hq (.tup [d, .tup es]) (sp2 (kind_sm hd) sv (ev_kind hd))
          · walk_at "bv"
            refine ite2 (fun c7 => ?_) (fun c7 => ?_)
            · walk_at "bv"
              exact hq (.tup [.str "gives", vb]) (sp2 g1 sV (by simp [ev_gives, bV]))
            · walk_at "bv"
              have c7' := eq_false_of_ne_true c7
              rw [c7']
              walk_at "bv"
              exact hq (.tup [.str "gives", vb]) (sp2 g1 sV (by simp [ev_gives, bV]))
    | throws v hv =>
      have sv := hv.sm
      obtain ⟨es, rfl⟩ := hv.tup
      obtain rfl : k4 = 0 := by
        have : k4 < 1 := hk4
        omega
      walk_at "bv"
      refine ite2 (fun c1 => ?_) (fun c1 => ?_)
      · walk_at "bv"
        exact hq (.tup [.str "throws"]) (sp1 g2 (ev_len look_t (by simp)))
      · walk_at "bv"
        refine ite2 (fun c2 => ?_) (fun c2 => ?_)
        · walk_at "bv"
          exact hq (.tup [.str "throws", .tup es, .tup [.str "none"]]) (sp3 g2 sv sX (ev_len look_t (by simp)))
        · walk_at "bv"
          refine ite2 (fun c3 => ?_) (fun c3 => ?_)
          · walk_at "bv"
            refine ⟨9, rfl, by decide, by decide, fun k5 hk5 => ?_⟩
            refine ixAll badKind hk5 (by decide +kernel) fun d hd => ?_
            walk_at "bv"
            exact hq (.tup [d, .tup es]) (sp2 (kind_sm hd) sv (ev_kind hd))
          · walk_at "bv"
            refine ite2 (fun c7 => ?_) (fun c7 => ?_)
            · walk_at "bv"
              exact hq (.tup [.str "throws", vb]) (sp2 g2 sV (by simp [ev_throws, bV]))
            · walk_at "bv"
              have c7' := eq_false_of_ne_true c7
              rw [c7']
              walk_at "bv"
              exact hq (.tup [.str "throws", vb]) (sp2 g2 sV (by simp [ev_throws, bV]))
    | calls n hn v u hv hu =>
      have sv := hv.sm
      have su := hu.sm
      have sn : Sm (.int n) := ⟨by rw [smB]; rfl, by simp [szB]⟩
      obtain ⟨es, rfl⟩ := hv.tup
      obtain ⟨us, rfl⟩ := hu.tup
      have k3 : k4 < 3 := hk4
      have : k4 = 0 ∨ k4 = 1 ∨ k4 = 2 := by omega
      rcases this with rfl | rfl | rfl
      · walk_at "bv"
        refine ite2 (fun c1 => ?_) (fun c1 => ?_)
        · walk_at "bv"
          exact hq (.tup [.str "calls", .tup es, .tup us]) (sp3 g3 sv su (ev_len look_c (by simp)))
        · walk_at "bv"
          refine ite2 (fun c2 => ?_) (fun c2 => ?_)
          · walk_at "bv"
            exact hq (.tup [.str "calls", .int n, .tup es, .tup us, .tup [.str "none"]]) (sp5 g3 sn sv su sX (ev_len look_c (by simp)))
          · walk_at "bv"
            refine ite2 (fun c3 => ?_) (fun c3 => ?_)
            · walk_at "bv"
              refine ⟨9, rfl, by decide, by decide, fun k5 hk5 => ?_⟩
              refine ixAll badKind hk5 (by decide +kernel) fun d hd => ?_
              walk_at "bv"
              exact hq (.tup [d, .int n, .tup es, .tup us]) (sp4 (kind_sm hd) sn sv su (ev_kind hd))
            · walk_at "bv"
              refine ite2 (fun c7 => ?_) (fun c7 => ?_)
              · walk_at "bv"
                rw [c7]
                walk_at "bv"
                exact hq (.tup [.str "calls", nb, .tup es, .tup us]) (sp4 g3 sN sv su (by simp [ev_calls, bN]))
              · walk_at "bv"
                have c7' := eq_false_of_ne_true c7
                rw [c7']
                walk_at "bv"
                exact hq (.tup [.str "calls", nb, vb, .tup us]) (sp4 g3 sN sV su (by simp [ev_calls, bN]))
      · walk_at "bv"
        refine ite2 (fun c1 => ?_) (fun c1 => ?_)
        · walk_at "bv"
          exact hq (.tup [.str "calls", .int n, .tup us]) (sp3 g3 sn su (ev_len look_c (by simp)))
        · walk_at "bv"
          refine ite2 (fun c2 => ?_) (fun c2 => ?_)
          · walk_at "bv"
            exact hq (.tup [.str "calls", .int n, .tup es, .tup us, .tup [.str "none"]]) (sp5 g3 sn sv su sX (ev_len look_c (by simp)))
          · walk_at "bv"
            refine ite2 (fun c3 => ?_) (fun c3 => ?_)
            · walk_at "bv"
              refine ⟨9, rfl, by decide, by decide, fun k5 hk5 => ?_⟩
              refine ixAll badKind hk5 (by decide +kernel) fun d hd => ?_
              walk_at "bv"
              exact hq (.tup [d, .int n, .tup es, .tup us]) (sp4 (kind_sm hd) sn sv su (ev_kind hd))
            · walk_at "bv"
              refine ite2 (fun c7 => ?_) (fun c7 => ?_)
              · walk_at "bv"
                exact hq (.tup [.str "calls", .int n, vb, .tup us]) (sp4 g3 sn sV su (by simp [ev_calls, bV]))
              · walk_at "bv"
                have c7' := eq_false_of_ne_true c7
                rw [c7']
                walk_at "bv"
                exact hq (.tup [.str "calls", nb, vb, .tup us]) (sp4 g3 sN sV su (by simp [ev_calls, bN]))
      · walk_at "bv"
        refine ite2 (fun c1 => ?_) (fun c1 => ?_)
        · walk_at "bv"
          exact hq (.tup [.str "calls", .int n, .tup es]) (sp3 g3 sn sv (ev_len look_c (by simp)))
        · walk_at "bv"
          refine ite2 (fun c2 => ?_) (fun c2 => ?_)
          · walk_at "bv"
            exact hq (.tup [.str "calls", .int n, .tup es, .tup us, .tup [.str "none"]]) (sp5 g3 sn sv su sX (ev_len look_c (by simp)))
          · walk_at "bv"
            refine ite2 (fun c3 => ?_) (fun c3 => ?_)
            · walk_at "bv"
              refine ⟨9, rfl, by decide, by decide, fun k5 hk5 => ?_⟩
              refine ixAll badKind hk5 (by decide +kernel) fun d hd => ?_
              walk_at "bv"
              exact hq (.tup [d, .int n, .tup es, .tup us]) (sp4 (kind_sm hd) sn sv su (ev_kind hd))
            · walk_at "bv"
              refine ite2 (fun c7 => ?_) (fun c7 => ?_)
              · walk_at "bv"
                exact hq (.tup [.str "calls", .int n, .tup es, vb]) (sp4 g3 sn sv sV (by simp [ev_calls, bV]))
              · walk_at "bv"
                have c7' := eq_false_of_ne_true c7
                rw [c7']
                walk_at "bv"
                exact hq (.tup [.str "calls", nb, vb, .tup us]) (sp4 g3 sN sV su (by simp [ev_calls, bN]))
    | asks z hz v u hv hu =>
      have sv := hv.sm
      have su := hu.sm
      have sn : Sm (.str z) := Sm.str (nm_sm hz)
      obtain ⟨es, rfl⟩ := hv.tup
      obtain ⟨us, rfl⟩ := hu.tup
      have k3 : k4 < 3 := hk4
      have : k4 = 0 ∨ k4 = 1 ∨ k4 = 2 := by omega
      rcases this with rfl | rfl | rfl
      · walk_at "bv"
        refine ite2 (fun c1 => ?_) (fun c1 => ?_)
        · walk_at "bv"
          exact hq (.tup [.str "asks", .tup es, .tup us]) (sp3 g4 sv su (ev_len look_a (by simp)))
        · walk_at "bv"
          refine ite2 (fun c2 => ?_) (fun c2 => ?_)
          · walk_at "bv"
            exact hq (.tup [.str "asks", .str z, .tup es, .tup us, .tup [.str "none"]]) (sp5 g4 sn sv su sX (ev_len look_a (by simp)))
          · walk_at "bv"
            refine ite2 (fun c3 => ?_) (fun c3 => ?_)
            · walk_at "bv"
              refine ⟨9, rfl, by decide, by decide, fun k5 hk5 => ?_⟩
              refine ixAll badKind hk5 (by decide +kernel) fun d hd => ?_
              walk_at "bv"
              exact hq (.tup [d, .str z, .tup es, .tup us]) (sp4 (kind_sm hd) sn sv su (ev_kind hd))
            · walk_at "bv"
              refine ite2 (fun c7 => ?_) (fun c7 => ?_)
              · walk_at "bv"
                rw [c7]
                walk_at "bv"
                exact hq (.tup [.str "asks", nn, .tup es, .tup us]) (sp4 g4 sM sv su (by simp [ev_asks, bM]))
              · walk_at "bv"
                have c7' := eq_false_of_ne_true c7
                rw [c7']
                walk_at "bv"
                exact hq (.tup [.str "asks", nn, .tup es, .tup us]) (sp4 g4 sM sv su (by simp [ev_asks, bM]))
      · walk_at "bv"
        refine ite2 (fun c1 => ?_) (fun c1 => ?_)
        · walk_at "bv"
          exact hq (.tup [.str "asks", .str z, .tup us]) (sp3 g4 sn su (ev_len look_a (by simp)))
        · walk_at "bv"
          refine ite2 (fun c2 => ?_) (fun c2 => ?_)
          · walk_at "bv"
            exact hq (.tup [.str "asks", .str z, .tup es, .tup us, .tup [.str "none"]]) (sp5 g4 sn sv su sX (ev_len look_a (by simp)))
          · walk_at "bv"
            refine ite2 (fun c3 => ?_) (fun c3 => ?_)
            · walk_at "bv"
              refine ⟨9, rfl, by decide, by decide, fun k5 hk5 => ?_⟩
              refine ixAll badKind hk5 (by decide +kernel) fun d hd => ?_
              walk_at "bv"
              exact hq (.tup [d, .str z, .tup es, .tup us]) (sp4 (kind_sm hd) sn sv su (ev_kind hd))
            · walk_at "bv"
              refine ite2 (fun c7 => ?_) (fun c7 => ?_)
              · walk_at "bv"
                exact hq (.tup [.str "asks", .str z, vb, .tup us]) (sp4 g4 sn sV su (by simp [ev_asks, bV]))
              · walk_at "bv"
                have c7' := eq_false_of_ne_true c7
                rw [c7']
                walk_at "bv"
                exact hq (.tup [.str "asks", nn, .tup es, .tup us]) (sp4 g4 sM sv su (by simp [ev_asks, bM]))
      · walk_at "bv"
        refine ite2 (fun c1 => ?_) (fun c1 => ?_)
        · walk_at "bv"
          exact hq (.tup [.str "asks", .str z, .tup es]) (sp3 g4 sn sv (ev_len look_a (by simp)))
        · walk_at "bv"
          refine ite2 (fun c2 => ?_) (fun c2 => ?_)
          · walk_at "bv"
            exact hq (.tup [.str "asks", .str z, .tup es, .tup us, .tup [.str "none"]]) (sp5 g4 sn sv su sX (ev_len look_a (by simp)))
          · walk_at "bv"
            refine ite2 (fun c3 => ?_) (fun c3 => ?_)
            · walk_at "bv"
              refine ⟨9, rfl, by decide, by decide, fun k5 hk5 => ?_⟩
              refine ixAll badKind hk5 (by decide +kernel) fun d hd => ?_
              walk_at "bv"
              exact hq (.tup [d, .str z, .tup es, .tup us]) (sp4 (kind_sm hd) sn sv su (ev_kind hd))
            · walk_at "bv"
              refine ite2 (fun c7 => ?_) (fun c7 => ?_)
              · walk_at "bv"
                exact hq (.tup [.str "asks", .str z, .tup es, vb]) (sp4 g4 sn sv sV (by simp [ev_asks, bV]))
              · walk_at "bv"
                have c7' := eq_false_of_ne_true c7
                rw [c7']
                walk_at "bv"
                exact hq (.tup [.str "asks", nn, .tup es, .tup us]) (sp4 g4 sM sv su (by simp [ev_asks, bM]))
end
end SF

set_option Elab.async false
set_option linter.all false
set_option maxRecDepth 100000
set_option maxHeartbeats 8000000
/-! k85: _law_told, the law -/
namespace SF
open PySem PySem.Spec PyProof.Rows L2 G0 BV
open C8 (Cal Mak Met pe_c pe_mk pe_mt pe_mt0 pe_gc)
/-- a def that may raise, by its name -/
structure CalS (P : Program) (w : World) (K : PySem.W.Frag) (mg : Str → Option Value) (base : Heap) (lv : Nat) (x : Str) (ps : List Str) (sp : Sp) : Prop where
  ex : ∃ (f : Addr) (fd : FuncData), FnOk P w K mg base (L2.CX P w) lv f fd ps sp ∧ mg x = some (.ref f) ∧ PySem.W.keepIn K (.ref f) = true ∧ Binds K fd ps []
/-- what the law asks of the classes of errors -/
structure LawE (K : PySem.W.Frag) (mg : Str → Option Value) (CB CS CM CT : Addr) : Prop where
  gB : mg "BadEvent" = some (.ref CB)
  gS : mg "StandError" = some (.ref CS)
  gM : mg "BadMove" = some (.ref CM)
  gT : mg "BadText" = some (.ref CT)
  gV : mg "ValueError" = none
  xf : XfC K CB
  ec : ExcC K CB
  no : PySem.W.findIn K (.ref CB) "event" = some none
  te : PySem.W.exmOne K (.ref CB) (.ref CB) = some true
  kS : PySem.W.kitOne K (.ref CB) (.ref CS) = some true
  kV : PySem.W.kitOne K (.ref CB) (.type "ValueError") = some true
  kM : PySem.W.kitOne K (.ref CB) (.ref CM) = some false
  kT : PySem.W.kitOne K (.ref CB) (.ref CT) = some false
mutual
theorem cp_fin : ∀ {n : Nat} {x : B}, cpB n x = true → finB n x = true
  | n, .non, h => h
  | n, .bl _, h => h
  | n, .int _, h => h
  | n, .str z, h => h
  | n, .tup ds, h => by
    rw [cpB, Bool.and_eq_true] at h
    rw [finB, Bool.and_eq_true]
    exact ⟨h.1, cps_fin h.2⟩
  | n, .lst ds, h => by
    rw [cpB, Bool.and_eq_true] at h
    rw [finB, Bool.and_eq_true]
    exact ⟨h.1, cps_fin h.2⟩
  | n, .dct ks ds, h => by
    rw [cpB, Bool.and_eq_true, Bool.and_eq_true] at h
    obtain ⟨h1, h2, h3⟩ := h
    have e1 : ks = [] := List.isEmpty_iff.mp h2
    have e2 : ds = [] := List.isEmpty_iff.mp h3
    subst e1 e2
    rw [finB, h1, finsB]
    rfl
  | n, .src, h => by simp [cpB] at h
  | n, .raw _, h => by simp [cpB] at h
  | n, .xc _ _ _ _, h => by simp [cpB] at h
theorem cps_fin : ∀ {n : Nat} {ds : List B}, cpsB n ds = true → finsB n ds = true
  | n, [], h => by rw [finsB]
  | n, d :: ds, h => by
    rw [cpsB, Bool.and_eq_true] at h
    rw [finsB, Bool.and_eq_true]
    exact ⟨cp_fin h.1, cps_fin h.2⟩
end
theorem eb_ok {e : B} (h : EB e) : isEvB e = true ∧ isPlainB e = true ∧ (∀ ds, e = .tup ds → smB 12 e = true ∧ ds.length ≤ 1000) ∧ CpOk e ∧ smB 12 e = true := by
  obtain ⟨ds, rfl, hl⟩ : ∃ ds, e = .tup ds ∧ ds.length ≤ 4 := by cases h <;> exact ⟨_, rfl, Nat.le_of_ble_eq_true rfl⟩
  obtain ⟨s4, zz⟩ := eb_sm h
  have s12 : smB 12 (.tup ds) = true := by
    rw [smB, Bool.and_eq_true]
    exact ⟨rfl, smsB_le s4 (by decide)⟩
  refine ⟨?_, rfl, fun es q => by cases q; exact ⟨s12, by omega⟩, ⟨sm_cp s12, by rw [szB]; omega⟩, s12⟩
  cases h with
  | gives v hv => rw [ev_gives]; exact (vb_sm hv).2.2
  | throws v hv => rw [ev_throws]; exact (vb_sm hv).2.2
  | calls n hn v u hv hu =>
    rw [ev_calls, (vb_sm hv).2.2, (vb_sm hu).2.2]
    show (decide (0 ≤ (n : Int)) && decide ((n : Int) ≤ 999999) && (true && true)) = true
    rw [decide_eq_true (by omega), decide_eq_true (by omega)]
    rfl
  | asks z hz v u hv hu =>
    rw [ev_asks, (vb_sm hv).2.2, (vb_sm hu).2.2]
    show (nameS z && (true && true)) = true
    rw [hz.name.1]
    rfl
mutual
theorem eqv_self : ∀ {n : Nat} {x : B}, smB n x = true → PyData.eqv (py x) (py x) = true
  | n, .non, h => by rw [py, PyData.eqv]
  | n, .bl _, h => by rw [py, PyData.eqv]; simp
  | n, .int _, h => by rw [py, PyData.eqv]; simp
  | n, .str z, h => by rw [py, PyData.eqv]; simp
  | n, .tup ds, h => by
    rw [smB, Bool.and_eq_true] at h
    rw [py, PyData.eqv]
    exact eqvs_self h.2
  | n, .lst ds, h => by
    rw [smB, Bool.and_eq_true] at h
    rw [py, PyData.eqv]
    exact eqvs_self h.2
  | n, .dct _ _, h => by simp [smB] at h
  | n, .src, h => by simp [smB] at h
  | n, .raw _, h => by simp [smB] at h
  | n, .xc _ _ _ _, h => by simp [smB] at h
theorem eqvs_self : ∀ {n : Nat} {ds : List B}, smsB n ds = true → PyData.eqvAll (pys ds) (pys ds) = true
  | n, [], h => by rw [pys, PyData.eqvAll]
  | n, d :: ds, h => by
    rw [smsB, Bool.and_eq_true] at h
    rw [pys, PyData.eqvAll, eqv_self h.1, eqvs_self h.2]
    rfl
end
mutual
def nfB : B → Bool
  | .str _ => true
  | .int _ => true
  | .tup ds => nfsB ds
  | _ => false
def nfsB : List B → Bool
  | [] => true
  | d :: ds => nfB d && nfsB ds
end
theorem vw_det {v : B} {a b : List Str} (h : VW v a) (k : VW v b) : a = b := by
  cases h <;> cases k <;> rfl
theorem ew_det {e : B} {a b : List (List Str)} (h : EW e a) (k : EW e b) : a.flatten = b.flatten := by
  cases h with
  | gives v a h => cases k with
    | gives _ a' h' => rw [vw_det h h']
  | throws v a h => cases k with
    | throws _ a' h' => rw [vw_det h h']
  | calls n hn v u a b h g => cases k with
    | calls _ _ _ _ a' b' h' g' => rw [vw_det h h', vw_det g g']
  | asks z hz v u a b h g => cases k with
    | asks _ _ _ _ a' b' h' g' => rw [vw_det h h', vw_det g g']
mutual
/-- data without flags among numbers: == is equal -/
theorem eqv_eq : ∀ {x y : B}, nfB x = true → nfB y = true → PyData.eqv (py x) (py y) = true → x = y
  | .str a, .str b, _, _, h => by
    rw [py, py, PyData.eqv] at h
    rw [eq_of_beq h]
  | .int a, .int b, _, _, h => by
    rw [py, py, PyData.eqv] at h
    rw [eq_of_beq h]
  | .tup a, .tup b, h1, h2, h => by
    rw [py, py, PyData.eqv] at h
    rw [nfB] at h1 h2
    rw [eqvs_eq h1 h2 h]
  | .str _, .int _, _, _, h => by rw [py, py, PyData.eqv] at h; cases h
  | .str _, .tup _, _, _, h => by rw [py, py, PyData.eqv] at h; cases h
  | .int _, .str _, _, _, h => by rw [py, py, PyData.eqv] at h; cases h
  | .int _, .tup _, _, _, h => by rw [py, py, PyData.eqv] at h; cases h
  | .tup _, .str _, _, _, h => by rw [py, py, PyData.eqv] at h; cases h
  | .tup _, .int _, _, _, h => by rw [py, py, PyData.eqv] at h; cases h
theorem eqvs_eq : ∀ {xs ys : List B}, nfsB xs = true → nfsB ys = true → PyData.eqvAll (pys xs) (pys ys) = true → xs = ys
  | [], [], _, _, _ => rfl
  | x :: xs, y :: ys, h1, h2, h => by
    rw [nfsB, Bool.and_eq_true] at h1 h2
    rw [pys, pys, PyData.eqvAll, Bool.and_eq_true] at h
    rw [eqv_eq h1.1 h2.1 h.1, eqvs_eq h1.2 h2.2 h.2]
  | [], _ :: _, _, _, h => by rw [pys, pys, PyData.eqvAll] at h; cases h
  | _ :: _, [], _, _, h => by rw [pys, pys, PyData.eqvAll] at h; cases h
end
theorem eb_nf {e : B} (h : EB e) : nfB e = true := by
  have v : ∀ {v : B}, VB v → nfB v = true := fun h => by cases h <;> simp [nfB, nfsB]
  cases h with
  | gives _ hv => simp [nfB, nfsB, v hv]
  | throws _ hv => simp [nfB, nfsB, v hv]
  | calls _ _ _ _ hv hu => simp [nfB, nfsB, v hv, v hu]
  | asks _ _ _ _ hv hu => simp [nfB, nfsB, v hv, v hu]
/-- equal texts, equal events -/
theorem ev_same {e e' : B} {ws ws' : List (List Str)} (he : EB e) (he' : EB e') (h : EW e ws) (h' : EW e' ws') : decide (evT ws.flatten = evT ws'.flatten) = PyData.eqv (py e) (py e') := by
  obtain ⟨a1, a2, a3⟩ := ew_ok h
  obtain ⟨b1, b2, b3⟩ := ew_ok h'
  have ne : ∀ {xs : List (List Str)} {x : B}, EW x xs → xs.flatten ≠ [] := fun hx => by cases hx <;> simp
  by_cases q : evT ws.flatten = evT ws'.flatten
  · rw [decide_eq_true q]
    have := ew_inj h h' (evT_inj (ne h) (ne h') a3 b3 q)
    subst this
    exact (eqv_self (eb_ok he).2.2.2.2).symm
  · rw [decide_eq_false q]
    cases e1 : PyData.eqv (py e) (py e') with
    | false => rfl
    | true =>
      have := eqv_eq (eb_nf he) (eb_nf he') e1
      subst this
      exact absurd (congrArg evT (ew_det h h')) q
def WTold (bs : List B) (R : B → Prop) : Prop := ∃ x, bs = [x] ∧ isPlainB x = true ∧ (∀ ds, x = .tup ds → smB 12 x = true ∧ ds.length ≤ 1000) ∧ CpOk x ∧ (isEvB x = true → ∃ ws, EW x ws ∧ R (.lst [.str "told", .str (evT ws.flatten)])) ∧ (isEvB x = false → R (.lst [.str "refused", x, .bl true, .bl false]))
section
variable {P : Program} {w : World} {K : PySem.W.Frag} {mg : Str → Option Value} {base : Heap}
set_option Elab.async false
set_option linter.all false
set_option maxRecDepth 100000
set_option maxHeartbeats 4000000
local macro_rules | `(tactic| walk_at "bv1") => `(tactic| first
  | (with_reducible refine BV.seq ?_) | (with_reducible refine BV.next ?_) | (with_reducible refine BV.ifS ?_) | ((with_reducible apply BV.retO); exact rfl) | (with_reducible refine BV.ret ?_) | (with_reducible refine BV.retN ?_) | ((with_reducible apply BV.asgPop); exact rfl) | (with_reducible refine BV.asgL0 ?_) | (with_reducible refine BV.asgD0 ?_) | (with_reducible refine BV.asg ?_) | (with_reducible refine BV.asgG ?_)
  | ((with_reducible apply BV.append); exact rfl) | ((with_reducible apply BV.extend); exact rfl) | ((with_reducible apply BV.augI); exact rfl) | ((with_reducible apply BV.truO); exact rfl) | (with_reducible refine BV.dropE ?_)
  | ((with_reducible apply BV.var); exact rfl) | (with_reducible refine BV.cInt ?_) | (with_reducible refine BV.cStr ?_) | (with_reducible refine BV.cBl ?_) | (with_reducible refine BV.cNon ?_) | (with_reducible refine BV.cRaw ?_)
  | ((with_reducible refine BV.isiT2 ?h1 ?h2 ?_); (case h1 => decide +kernel); (case h2 => decide +kernel)) | ((with_reducible refine And.intro (show isPlainB _ = true from ?hz) ?_); (case hz => exact rfl)) | ((with_reducible refine BV.listVals ?hu ?_); (case hu => trivial))
  | (with_reducible refine BV.nil ?_) | (with_reducible refine BV.cons ?_) | (with_reducible refine BV.tup ?_) | (with_reducible refine BV.lst ?_) | (with_reducible refine BV.op ?_) | (with_reducible refine BV.un ?_) | (with_reducible refine BV.thn_ ?_) | (with_reducible refine BV.cb ?_)
  | (with_reducible refine BV.call ?_) | (with_reducible refine BV.callLo ?_) | (with_reducible refine BV.callW ?_) | (with_reducible refine BV.callLoW ?_) | (with_reducible refine BV.ifE ?_) | (with_reducible refine BV.andV ?_) | (with_reducible refine BV.orV ?_) | (with_reducible refine BV.notV ?_) | (with_reducible refine BV.chain ?_) | (with_reducible refine BV.sl ?_) | (with_reducible refine BV.noP ?_) | (with_reducible refine BV.part ?_) | (with_reducible refine BV.bm0S ?_) | (with_reducible refine BV.strJoin ?_)
  | (with_reducible refine BV.tB_ ?_) | (with_reducible refine BV.test ?_) | (with_reducible refine BV.and_ ?_) | (with_reducible refine BV.or_ ?_) | (with_reducible refine BV.not_ ?_) | (with_reducible refine BV.yes ?_)
  | (with_reducible refine BV.i0 ?_) | (with_reducible refine BV.i0b ?_) | (with_reducible refine BV.eqS ?_) | (with_reducible refine BV.eqI ?_) | (with_reducible refine BV.neS ?_) | (with_reducible refine BV.neI ?_) | (with_reducible refine BV.neB ?_)
  | ((with_reducible apply BV.ixT); exact rfl) | (with_reducible refine BV.ixT BV.at0' ?_) | ((with_reducible apply BV.ixL); exact rfl)
  | (with_reducible refine BV.lenL ?_) | (with_reducible refine BV.lenT ?_) | ((with_reducible apply BV.lenO); exact rfl)
  | (with_reducible refine BV.slT ?_) | (with_reducible refine BV.int1 ?_) | (with_reducible refine BV.tupOfL ?_) | (with_reducible refine BV.tupOfT ?_) | (with_reducible refine BV.listOfL ?_) | (with_reducible refine BV.listOfT ?_) | (with_reducible refine BV.min2 ?_)
  | ((with_reducible refine BV.isi ?hh ?hp ?_); (case hh => decide +kernel); (case hp => exact rfl)) | ((with_reducible refine BV.isN ?hp ?_); (case hp => exact rfl)) | ((with_reducible refine BV.notN ?hp ?_); (case hp => exact rfl))
  | (with_reducible refine BV.exBl ?_) | (with_reducible refine BV.exInt ?_) | (with_reducible refine BV.exLst ?_) | (with_reducible refine BV.exTup ?_) | (with_reducible refine BV.exStr ?_) | (with_reducible refine BV.exZip ?_)
  | (with_reducible refine RD.ifT ?_) | (with_reducible refine RD.ifF ?_) | (with_reducible refine RD.ifNT ?_) | (with_reducible refine RD.ifNF ?_)
  | ((with_reducible refine And.intro (show List.length _ ≤ sizeLine from ?hz) ?_); (case hz => exact Nat.le_of_ble_eq_true rfl)) | ((with_reducible refine And.intro (show List.length _ < sizeLine from ?hz) ?_); (case hz => exact Nat.le_of_ble_eq_true rfl))
  | ((with_reducible refine RD.ifDT ?hd ?_); (case hd => first | decide +kernel | exact rfl)) | ((with_reducible refine RD.ifDF ?hd ?_); (case hd => first | decide +kernel | exact rfl))
  | ((with_reducible refine BV.catT ?hz ?_); (case hz => exact Nat.le_of_ble_eq_true rfl)) | ((with_reducible refine BV.catL ?hz ?_); (case hz => exact Nat.le_of_ble_eq_true rfl))
  | (with_reducible refine BV.wlist ?_) | (with_reducible refine BV.wtup ?_) | (with_reducible refine BV.wstr ?_) | (with_reducible refine BV.wrng1 ?_) | (with_reducible refine BV.wrng2 ?_) | (with_reducible refine BV.wzip ?_) | (with_reducible refine BV.wenum ?_)
  | (with_reducible refine BV.lcNil ?_) | (with_reducible refine BV.lcCons ?_) | (with_reducible refine BV.forNil ?_) | (with_reducible refine BV.forCons ?_) | (with_reducible refine BV.joined ?_) | (with_reducible refine BV.jsCons ?_) | (with_reducible refine BV.jsNil ?_) | (with_reducible refine BV.fmtS ?_) | (with_reducible refine BV.str2S ?_) | (with_reducible refine BV.neg1 ?_) | (with_reducible refine BV.ofN (BV.dNew ?_))
  | (with_reducible refine BV.gname ?_) | (with_reducible refine BV.gnil ?_) | (with_reducible refine BV.gcons ?_) | ((with_reducible apply BV.gtup); exact rfl)
  | ((with_reducible refine BV.vname ?hh ?_); (case hh => decide)) | (with_reducible refine BV.vnil ?_) | (with_reducible refine BV.vcons ?_) | ((with_reducible apply BV.vtup); exact rfl)
  | (with_reducible refine BV.dget ?_) | (with_reducible refine BV.din ?_) | (with_reducible refine BV.dnotin ?_))
local macro_rules | `(tactic| walk_at "bv") => `(tactic| repeat walk_at "bv1")

theorem sc__law_told : FnScope ["_law_event_here", "_law_found", "_law_text", "e", "_law_kin"] ["_law_event_here"] (defScope (topS 37)) := ⟨rfl, rfl, rfl, by decide +kernel, rfl, by decide +kernel, by decide +kernel⟩
theorem ok_told (T : TxtE K mg) {CB CS CM CT : Addr} (L : LawE K mg CB CS CM CT) (c_event_text : CalS P w K mg base 17 "event_text" ["event"] (SpX G3 K [(CB, some "event")] (WText CB))) {f : Addr} {fd : FuncData} (F : Fun K "_law_told" "_law_told" (topS 37) f fd) : FnOk P w K mg base CX0 18 f fd ["_law_event_here"] (SpB G3 K WTold) := by
  refine F.ok sc__law_told (fun vs H Q E h => spLen (fun bs R hW => by obtain ⟨x, rfl, _⟩ := hW; rfl) h) (fun cdv A outer s H vs Q E hr h => ?_)
  obtain ⟨fT, fdT, FT, gT, kT, bT⟩ := c_event_text.ex
  have hr17 := hr.mono (show 17 ≤ 17 by decide)
  refine ⟨_, (pss_cons (ps_set (i := 1) sc__law_told.nd rfl (Or.inl rfl) (pe_lst (pa_cons pe_str (pa_cons pe_str pa_nil))))
      (pss_cons (ps_try_as (i := 3)
      (tb := fun W => tSeq (tAsg (tCallS (SpX G3 K [(CB, some "event")] (WText CB)) (WE W) (tCons (tVar 0) tNil)) (gName 2)) (tAsg (tLst (tCons (tC (.str "told")) (tCons (tVar 2) tNil))) (gName 1)))
      (ts := fun a cls d => tSeq (tAsg (tAndV (tCB (G8.rIsF K CB a cls d) (tCons (tVar 3) (tCons (tC (.ref CS)) tNil))) (tCB (G8.rIsF K CB a cls d) (tCons (tVar 3) (tCons (tC (.ty "ValueError")) tNil)))) (gName 4))
        (tAsg (tLst (tCons (tC (.str "refused")) (tCons (tXf a cls d CB "event" (tVar 3)) (tCons (tVar 4) (tCons (tOrV (tCB (G8.rIsF K CB a cls d) (tCons (tVar 3) (tCons (tC (.ref CM)) tNil))) (tCB (G8.rIsF K CB a cls d) (tCons (tVar 3) (tCons (tC (.ref CT)) tNil)))) tNil))))) (gName 1)))
      (Wout := fun _ _ _ _ => False) rfl rfl sc__law_told.nd rfl rfl ⟨rfl, by decide, .inl L.gB⟩ takes0
      (fun W pn xe tk _ => pss_cons (ps_set (i := 2) sc__law_told.nd rfl (.inl rfl) (by exact (pe_callS FT hr17 (by rfl) gT kT bT (fun σ => passAt tk σ) (pa_cons (pv 0) pa_nil))))
        (pss_one (ps_set (i := 1) sc__law_told.nd rfl (.inl rfl) (by exact (pe_lst (pa_cons pe_str (pa_cons (pv 2) pa_nil)))))))
      (fun a oe cls d pn hz hf => pss_cons (ps_set (i := 4) sc__law_told.nd rfl (.inl rfl) (by exact (pe_and (pe_callB (G8.call_isF L.ec hz hf) (by rfl) T.b_isinstance (by decide +kernel) (pa_cons (pv 3) (pa_cons (pe_gc (v := .ref CS) (by rfl) ⟨_, L.gS, rfl⟩) pa_nil))) (pe_one (pe_callB (G8.call_isF L.ec hz hf) (by rfl) T.b_isinstance (by decide +kernel) (pa_cons (pv 3) (pa_cons (pe_bltn (v := .ty "ValueError") (by rfl) L.gV (by decide +kernel) rfl) pa_nil)))))))
        (pss_one (ps_set (i := 1) sc__law_told.nd rfl (.inl rfl) (by exact (pe_lst (pa_cons pe_str (pa_cons (pe_xf L.xf L.no hz hf (pv 3)) (pa_cons (pv 4) (pa_cons (pe_or (pe_callB (G8.call_isF L.ec hz hf) (by rfl) T.b_isinstance (by decide +kernel) (pa_cons (pv 3) (pa_cons (pe_gc (v := .ref CM) (by rfl) ⟨_, L.gM, rfl⟩) pa_nil))) (pe_one (pe_callB (G8.call_isF L.ec hz hf) (by rfl) T.b_isinstance (by decide +kernel) (pa_cons (pv 3) (pa_cons (pe_gc (v := .ref CT) (by rfl) ⟨_, L.gT, rfl⟩) pa_nil))))) pa_nil))))))))))
      (pss_one (ps_ret (pv 1))))), ?_⟩
  refine body h _ fun bs R hW hl => ?_
  obtain ⟨x, rfl, hp, hs, hc, h1, h2⟩ := hW
  change bwS G3 K _ [.sh (x), .no, .no, .no, .no] _
  try dsimp only [cxOf, Cx.nox]
  walk_at "bv"
  dsimp only [List.set]
  refine tryC (Nat.le_of_ble_eq_true rfl) (fun C f hm => ?_) ?_
  · obtain ⟨rfl, rfl⟩ := Prod.mk.inj (List.mem_singleton.mp hm)
    exact ⟨L.te, fun z => nomatch z⟩
  walk_at "bv"
  refine ⟨x, rfl, hp, hs, hc, fun e => ?_, fun e a d f hm => ?_⟩
  · obtain ⟨ws, hw, hq⟩ := h1 e
    refine ⟨ws, hw, ?_⟩
    walk_at "bv"
    exact hq
  · obtain ⟨_, ef⟩ := Prod.mk.inj (List.mem_singleton.mp hm)
    obtain rfl := Option.some.inj ef
    have hq := h2 e
    dsimp only [List.set]
    walk_at "bv"
    refine isF rfl (fun u h => h) L.kS ?_
    walk_at "bv"
    refine isF rfl (fun u h => h) L.kV ?_
    walk_at "bv"
    refine xf ?_
    walk_at "bv"
    refine ⟨_, rfl, ?_⟩
    walk_at "bv"
    refine isF rfl (fun u h => h) L.kM ?_
    walk_at "bv"
    refine isF rfl (fun u h => h) L.kT ?_
    walk_at "bv"
    refine ⟨_, rfl, ?_⟩
    dsimp only [List.set]
    walk_at "bv"
    exact hq
end
end SF

set_option Elab.async false
set_option linter.all false
set_option maxRecDepth 100000
set_option maxHeartbeats 8000000
/-! k85: the law -/
namespace SF
open PySem PySem.Spec PyProof.Rows L2 G0 BV
open C8 (Cal Mak Met pe_c pe_mk pe_mt pe_mt0 pe_gc)
def spLaw (K : PySem.W.Frag) : Sp := fun vs H Q _ => ∃ (a : Addr) (ns : List Int), vs = [.ref a] ∧ SqL K H a (ns.map V.int) ∧ ns.length ≤ 63 ∧ ∀ H', Q (.bl true) H'
mutual
theorem fin_up1 : ∀ {n : Nat} {x : B}, finB n x = true → finB (n + 1) x = true
  | n, .src, h => by simp [finB] at h
  | n, .raw _, h => by simp [finB] at h
  | n, .xc _ _ _ _, h => by simp [finB] at h
  | n, .non, h => by simp [finB]
  | n, .bl _, h => by simp [finB]
  | n, .int _, h => by simp [finB]
  | n, .str _, h => by simp [finB]
  | 0, .tup ds, h => by simp [finB] at h
  | 0, .lst ds, h => by simp [finB] at h
  | 0, .dct _ ds, h => by simp [finB] at h
  | n + 1, .tup ds, h => by
    simp [finB] at h ⊢
    exact fins_up1 h
  | n + 1, .lst ds, h => by
    simp [finB] at h ⊢
    exact fins_up1 h
  | n + 1, .dct ks ds, h => by
    simp [finB] at h ⊢
    exact ⟨h.1, h.2.1, fins_up1 h.2.2⟩
theorem fins_up1 : ∀ {n : Nat} {ds : List B}, finsB n ds = true → finsB (n + 1) ds = true
  | n, [], h => by rw [finsB]
  | n, d :: ds, h => by
    rw [finsB, Bool.and_eq_true] at h ⊢
    exact ⟨fin_up1 h.1, fins_up1 h.2⟩
end
theorem fin_up {n m : Nat} {x : B} (h : finB n x = true) (hm : n ≤ m) : finB m x = true := by
  obtain ⟨k, rfl⟩ := Nat.le.dest hm
  clear hm
  induction k with
  | zero => exact h
  | succ k ih => exact fin_up1 ih
section
variable {P : Program} {w : World} {K : PySem.W.Frag} {mg : Str → Option Value} {base : Heap}
local macro_rules | `(tactic| walk_at "rd1") => `(tactic| first
  | (with_reducible refine RD.seq ?_) | (with_reducible refine RD.next ?_) | (with_reducible refine RD.ifS ?_) | (with_reducible refine RD.ret ?_) | (with_reducible refine RD.retN ?_) | (with_reducible refine RD.drop ?_) | (with_reducible refine RD.asg ?_) | (with_reducible refine RD.gname ?_)
  | ((with_reducible apply RD.var); exact rfl) | (with_reducible refine RD.c_ ?_) | (with_reducible refine RD.op ?_) | (with_reducible refine RD.un ?_) | (with_reducible refine RD.cb ?_) | (with_reducible refine RD.cons ?_) | (with_reducible refine RD.nil ?_) | (with_reducible refine RD.tup ?_) | (with_reducible refine RD.lst ?_)
  | (with_reducible refine RD.B_ ?_) | (with_reducible refine RD.test ?_) | (with_reducible refine RD.exB ?_) | (with_reducible refine RD.exI ?_) | (with_reducible refine RD.and_ ?_) | (with_reducible refine RD.or_ ?_) | (with_reducible refine RD.not_ ?_) | (with_reducible refine RD.andV ?_) | (with_reducible refine RD.orV ?_) | (with_reducible refine RD.notV ?_) | (with_reducible refine RD.if_ ?_)
  | (with_reducible refine RD.ifT ?_) | (with_reducible refine RD.ifF ?_) | (with_reducible refine RD.ifNT ?_) | (with_reducible refine RD.ifNF ?_) | (with_reducible refine RD.yes ?_) | (with_reducible refine RD.sl ?_) | (with_reducible refine RD.noPart ?_) | (with_reducible refine RD.part ?_) | (with_reducible refine RD.i0 ?_) | (with_reducible refine RD.eqS ?_) | (with_reducible refine RD.eqI ?_) | (with_reducible refine RD.neS ?_) | (with_reducible refine RD.neI ?_)
  | (with_reducible refine RD.isN_n ?_) | (with_reducible refine RD.isN_r ?_) | (with_reducible refine RD.isN_s ?_) | (with_reducible refine RD.isN_b ?_) | (with_reducible refine RD.isN_i ?_) | (with_reducible refine RD.notN_n ?_) | (with_reducible refine RD.notN_r ?_) | (with_reducible refine RD.notN_s ?_)
  | (with_reducible refine RD.call ?_) | (with_reducible refine RD.make ?_) | (with_reducible refine RD.gcons ?_) | (with_reducible refine RD.gnil ?_) | (with_reducible refine RD.bm ?_) | (with_reducible refine RD.bm0 ?_) | (with_reducible refine RD.dget ?_) | (with_reducible refine RD.din ?_) | (with_reducible refine RD.tfld ?_) | (with_reducible refine RD.then_ ?_) | (with_reducible refine RD.chain ?_) | (with_reducible refine RD.itup ?_) | (with_reducible refine RD.ikeys ?_) | (with_reducible refine RD.ivals ?_) | (with_reducible refine RD.iitems ?_) | (with_reducible refine RD.lset ?_) | (with_reducible refine RD.ilist ?_) | ((with_reducible apply RD.aug); exact rfl))
local macro_rules | `(tactic| walk_at "rd") => `(tactic| repeat walk_at "rd1")

set_option Elab.async false
set_option linter.all false
set_option maxRecDepth 100000
set_option maxHeartbeats 4000000
local macro_rules | `(tactic| walk_at "bv1") => `(tactic| first
  | (with_reducible refine BV.seq ?_) | (with_reducible refine BV.next ?_) | (with_reducible refine BV.ifS ?_) | ((with_reducible apply BV.retO); exact rfl) | (with_reducible refine BV.ret ?_) | (with_reducible refine BV.retN ?_) | ((with_reducible apply BV.asgPop); exact rfl) | (with_reducible refine BV.asgL0 ?_) | (with_reducible refine BV.asgD0 ?_) | (with_reducible refine BV.asg ?_) | (with_reducible refine BV.asgG ?_)
  | ((with_reducible apply BV.append); exact rfl) | ((with_reducible apply BV.extend); exact rfl) | ((with_reducible apply BV.augI); exact rfl) | ((with_reducible apply BV.truO); exact rfl) | (with_reducible refine BV.dropE ?_)
  | ((with_reducible apply BV.var); exact rfl) | (with_reducible refine BV.cInt ?_) | (with_reducible refine BV.cStr ?_) | (with_reducible refine BV.cBl ?_) | (with_reducible refine BV.cNon ?_) | (with_reducible refine BV.cRaw ?_)
  | ((with_reducible refine BV.isiT2 ?h1 ?h2 ?_); (case h1 => decide +kernel); (case h2 => decide +kernel)) | ((with_reducible refine And.intro (show isPlainB _ = true from ?hz) ?_); (case hz => exact rfl)) | ((with_reducible refine BV.listVals ?hu ?_); (case hu => trivial))
  | (with_reducible refine BV.nil ?_) | (with_reducible refine BV.cons ?_) | (with_reducible refine BV.tup ?_) | (with_reducible refine BV.lst ?_) | (with_reducible refine BV.op ?_) | (with_reducible refine BV.un ?_) | (with_reducible refine BV.thn_ ?_) | (with_reducible refine BV.cb ?_)
  | (with_reducible refine BV.call ?_) | (with_reducible refine BV.callLo ?_) | (with_reducible refine BV.callW ?_) | (with_reducible refine BV.callLoW ?_) | (with_reducible refine BV.ifE ?_) | (with_reducible refine BV.andV ?_) | (with_reducible refine BV.orV ?_) | (with_reducible refine BV.notV ?_) | (with_reducible refine BV.chain ?_) | (with_reducible refine BV.sl ?_) | (with_reducible refine BV.noP ?_) | (with_reducible refine BV.part ?_) | (with_reducible refine BV.bm0S ?_) | (with_reducible refine BV.strJoin ?_)
  | (with_reducible refine BV.tB_ ?_) | (with_reducible refine BV.test ?_) | (with_reducible refine BV.and_ ?_) | (with_reducible refine BV.or_ ?_) | (with_reducible refine BV.not_ ?_) | (with_reducible refine BV.yes ?_)
  | (with_reducible refine BV.i0 ?_) | (with_reducible refine BV.i0b ?_) | (with_reducible refine BV.eqS ?_) | (with_reducible refine BV.eqI ?_) | (with_reducible refine BV.neS ?_) | (with_reducible refine BV.neI ?_) | (with_reducible refine BV.neB ?_)
  | ((with_reducible apply BV.ixT); exact rfl) | (with_reducible refine BV.ixT BV.at0' ?_) | ((with_reducible apply BV.ixL); exact rfl)
  | (with_reducible refine BV.lenL ?_) | (with_reducible refine BV.lenT ?_) | ((with_reducible apply BV.lenO); exact rfl)
  | (with_reducible refine BV.slT ?_) | (with_reducible refine BV.int1 ?_) | (with_reducible refine BV.tupOfL ?_) | (with_reducible refine BV.tupOfT ?_) | (with_reducible refine BV.listOfL ?_) | (with_reducible refine BV.listOfT ?_) | (with_reducible refine BV.min2 ?_)
  | ((with_reducible refine BV.isi ?hh ?hp ?_); (case hh => decide +kernel); (case hp => exact rfl)) | ((with_reducible refine BV.isN ?hp ?_); (case hp => exact rfl)) | ((with_reducible refine BV.notN ?hp ?_); (case hp => exact rfl))
  | (with_reducible refine BV.exBl ?_) | (with_reducible refine BV.exInt ?_) | (with_reducible refine BV.exLst ?_) | (with_reducible refine BV.exTup ?_) | (with_reducible refine BV.exStr ?_) | (with_reducible refine BV.exZip ?_)
  | (with_reducible refine RD.ifT ?_) | (with_reducible refine RD.ifF ?_) | (with_reducible refine RD.ifNT ?_) | (with_reducible refine RD.ifNF ?_)
  | ((with_reducible refine And.intro (show List.length _ ≤ sizeLine from ?hz) ?_); (case hz => exact Nat.le_of_ble_eq_true rfl)) | ((with_reducible refine And.intro (show List.length _ < sizeLine from ?hz) ?_); (case hz => exact Nat.le_of_ble_eq_true rfl))
  | ((with_reducible refine RD.ifDT ?hd ?_); (case hd => first | decide +kernel | exact rfl)) | ((with_reducible refine RD.ifDF ?hd ?_); (case hd => first | decide +kernel | exact rfl))
  | ((with_reducible refine BV.catT ?hz ?_); (case hz => exact Nat.le_of_ble_eq_true rfl)) | ((with_reducible refine BV.catL ?hz ?_); (case hz => exact Nat.le_of_ble_eq_true rfl))
  | (with_reducible refine BV.wlist ?_) | (with_reducible refine BV.wtup ?_) | (with_reducible refine BV.wstr ?_) | (with_reducible refine BV.wrng1 ?_) | (with_reducible refine BV.wrng2 ?_) | (with_reducible refine BV.wzip ?_) | (with_reducible refine BV.wenum ?_)
  | (with_reducible refine BV.lcNil ?_) | (with_reducible refine BV.lcCons ?_) | (with_reducible refine BV.forNil ?_) | (with_reducible refine BV.forCons ?_) | (with_reducible refine BV.joined ?_) | (with_reducible refine BV.jsCons ?_) | (with_reducible refine BV.jsNil ?_) | (with_reducible refine BV.fmtS ?_) | (with_reducible refine BV.str2S ?_) | (with_reducible refine BV.neg1 ?_) | (with_reducible refine BV.ofN (BV.dNew ?_))
  | (with_reducible refine BV.gname ?_) | (with_reducible refine BV.gnil ?_) | (with_reducible refine BV.gcons ?_) | ((with_reducible apply BV.gtup); exact rfl)
  | ((with_reducible refine BV.vname ?hh ?_); (case hh => decide)) | (with_reducible refine BV.vnil ?_) | (with_reducible refine BV.vcons ?_) | ((with_reducible apply BV.vtup); exact rfl)
  | (with_reducible refine BV.dget ?_) | (with_reducible refine BV.din ?_) | (with_reducible refine BV.dnotin ?_))
local macro_rules | `(tactic| walk_at "bv") => `(tactic| repeat walk_at "bv1")

theorem sc_law : FnScope ["_law_script", "_law_source_here", "_law_near_here", "_law_one", "_law_other", "_law_first", "_law_second", "_law_spoiled_here"] ["_law_script"] (defScope (topS 38)) := ⟨rfl, rfl, rfl, by decide +kernel, rfl, by decide +kernel, by decide +kernel⟩
theorem ok_law (T : TxtE K mg) (c__law_source : Cal P w K mg base 1 "_law_source" (spSource K) []) (c__law_draw : Cal P w K mg base 2 "_law_draw" (SpB G3.lo K WDraw) []) (c__law_event : Cal P w K mg base 5 "_law_event" (SpB G3 K WEvent) []) (c__law_near : Cal P w K mg base 6 "_law_near" (SpB G3 K WNear) []) (c__law_due : Cal P w K mg base 1 "_law_due" (SpB G3.lo K WDue) []) (c__law_spoiled : Cal P w K mg base 3 "_law_spoiled" (SpB G3 K WSpoil) []) (c__law_told : Cal P w K mg base 18 "_law_told" (SpB G3 K WTold) [])
    {f : Addr} {fd : FuncData} (F : Fun K "law" "law" (topS 38) f fd) : FnOk P w K mg base CX0 19 f fd ["_law_script"] (spLaw K) := by
  refine F.ok sc_law (fun vs H Q E h => ?_) (fun cdv A outer s H vs Q E hr h => ?_)
  · obtain ⟨a, ns, rfl, _⟩ := h
    rfl
  obtain ⟨a, ns, rfl, hS, hl, q⟩ := h
  refine ⟨_, (pss_cons (ps_set (i := 1) sc_law.nd rfl (Or.inl rfl) (pe_c c__law_source hr (by decide) (by rfl) (pa_cons (pv 0) pa_nil)))
      (pss_cons (ps_set (i := 2) sc_law.nd rfl (Or.inl rfl) (pe_cmpR op_gt (pe_c c__law_draw hr (by decide) (by rfl) (pa_cons (pv 1) (pa_cons pe_int pa_nil))) pe_int (nomark _)))
      (pss_cons (ps_set (i := 3) sc_law.nd rfl (Or.inl rfl) (pe_c c__law_event hr (by decide) (by rfl) (pa_cons (pv 1) pa_nil)))
      (pss_cons (ps_set (i := 4) sc_law.nd rfl (Or.inl rfl) (pe_c c__law_event hr (by decide) (by rfl) (pa_cons (pv 1) pa_nil)))
      (pss_cons (ps_if (pt_val (pv 2)) (pss_one (ps_set (i := 4) sc_law.nd rfl (Or.inl rfl) (pe_c c__law_near hr (by decide) (by rfl) (pa_cons (pv 1) (pa_cons (pv 3) pa_nil))))) pss_nil)
      (pss_cons (ps_set (i := 5) sc_law.nd rfl (Or.inl rfl) (pe_c c__law_told hr (by decide) (by rfl) (pa_cons (pv 3) pa_nil)))
      (pss_cons (ps_set (i := 6) sc_law.nd rfl (Or.inl rfl) (pe_c c__law_told hr (by decide) (by rfl) (pa_cons (pv 4) pa_nil)))
      (pss_cons (ps_if ((pw_or (pt_cmpR (G8.op_neW hr.units) (pv 5) (pe_lst (pa_cons pe_str (pa_cons (pe_c c__law_due hr (by decide) (by rfl) (pa_cons (pv 3) pa_nil)) pa_nil))) (nomark _)) (pw_or1 (pt_cmpR (G8.op_neW hr.units) (pv 6) (pe_lst (pa_cons pe_str (pa_cons (pe_c c__law_due hr (by decide) (by rfl) (pa_cons (pv 4) pa_nil)) pa_nil))) (nomark _))))).pt (pss_one (ps_ret pe_bl)) pss_nil)
      (pss_cons (ps_if (pt_cmpR op_ne (pe_cmpR op_eq (pe_ix ix_list (pv 5) pe_int (fun _ _ => rfl)) (pe_ix ix_list (pv 6) pe_int (fun _ _ => rfl)) (nomark _)) (pe_cmpR (op_eqD hr.units) (pv 3) (pv 4) (nomark _)) (nomark _)) (pss_one (ps_ret pe_bl)) pss_nil)
      (pss_cons (ps_set (i := 7) sc_law.nd rfl (Or.inl rfl) (pe_c c__law_spoiled hr (by decide) (by rfl) (pa_cons (pv 1) (pa_cons (pv 3) pa_nil))))
      (pss_cons (ps_if (pt_cmpR (G8.op_neW hr.units) (pe_c c__law_told hr (by decide) (by rfl) (pa_cons (pv 7) pa_nil)) (pe_lst (pa_cons pe_str (pa_cons (pv 7) (pa_cons pe_bl (pa_cons pe_bl pa_nil))))) (nomark _)) (pss_one (ps_ret pe_bl)) pss_nil)
      (pss_one (ps_ret (pe_cmpR (G3.op_eqW hr.units) (pe_c c__law_told hr (by decide) (by rfl) (pa_cons (pv 3) pa_nil)) (pv 5) (nomark _))))))))))))))), ?_⟩
  refine RD.seq (RD.asg (RD.call (RD.cons (RD.var rfl (RD.nil ⟨a, ns, rfl, hS, fun H1 st cl s1 n1 hD => RD.gname ?_⟩)))))
  refine run0 (G := G3) (K := K) [.no, .sh .src, .no, .no, .no, .no, .no, .no] (fun _ _ _ => trivial) hD rfl (fun i c hc => ?_) (fun b => b = .bl true) ?_ (fun b v H' hb hf => ?_)
  · match i with
    | 0 => cases hc; exact .inl rfl
    | 1 => cases hc; exact .inr ⟨rfl, rfl⟩
    | 2 => cases hc; exact .inl rfl
    | 3 => cases hc; exact .inl rfl
    | 4 => cases hc; exact .inl rfl
    | 5 => cases hc; exact .inl rfl
    | 6 => cases hc; exact .inl rfl
    | 7 => cases hc; exact .inl rfl
    | _ + 8 => cases hc
  · try dsimp only [cxOf, Cx.nox]
    walk_at "bv"
    refine ⟨3, rfl, by decide, by decide, fun k hk => ?_⟩
    walk_at "bv"
    refine ⟨rfl, fun e1 he1 => ?_⟩
    walk_at "bv"
    refine ⟨rfl, fun e2' he2' => ?_⟩
    refine BV.seq (BV.join (fun g => ∃ e2, EB e2 ∧ g = [.no, .sh .src, .sh (.bl (decide ((0 : Int) < (k : Int)))), .sh e1, .sh e2, .no, .no, .no]) ?_ ?_)
    · walk_at "bv"
      refine ite2 (fun c => ?_) (fun c => ?_)
      · walk_at "bv"
        exact ⟨e1, rfl, he1, fun e3 he3 => ⟨e3, he3, rfl⟩⟩
      · walk_at "bv"
        exact ⟨e2', he2', rfl⟩
    rintro g ⟨e2, he2, rfl⟩
    obtain ⟨w1, hw1⟩ := ew_of he1
    obtain ⟨w2, hw2⟩ := ew_of he2
    obtain ⟨a1, a2, a3, a4, a5⟩ := eb_ok he1
    obtain ⟨b1, b2, b3, b4, b5⟩ := eb_ok he2
    walk_at "bv"
    refine ⟨e1, rfl, a2, a3, a4, fun _ => ⟨w1, hw1, ?_⟩, fun z => by rw [a1] at z; cases z⟩
    walk_at "bv"
    refine ⟨e2, rfl, b2, b3, b4, fun _ => ⟨w2, hw2, ?_⟩, fun z => by rw [b1] at z; cases z⟩
    walk_at "bv"
    refine ⟨e1, w1, rfl, hw1, ?_⟩
    walk_at "bv"
    refine neW 5 trivial (by decide) rfl ?_
    walk_at "bv"
    refine ⟨e2, w2, rfl, hw2, ?_⟩
    walk_at "bv"
    refine neW 5 trivial (by decide) rfl ?_
    walk_at "bv"
    refine eqD (sm_shaped a5 (by decide)) (sm_shaped b5 (by decide)) ?_
    walk_at "bv"
    rw [ev_same he1 he2 hw1 hw2]
    rw [show (!decide (PyData.eqv (py e1) (py e2) = PyData.eqv (py e1) (py e2))) = false by simp]
    walk_at "bv"
    refine ⟨e1, rfl, he1, fun x hx => ?_⟩
    walk_at "bv"
    refine ⟨x, rfl, hx.pl, hx.sm, hx.cp, (fun z => by rw [hx.no] at z; cases z), fun _ => ?_⟩
    walk_at "bv"
    refine neW 20 trivial (by decide) ?_ ?_
    · have := fin_up (cp_fin hx.cp.1) (show 12 ≤ 20 by decide)
      rw [finsB, finsB, finsB, finsB, finsB, this]
      rfl
    walk_at "bv"
    refine ⟨e1, rfl, a2, a3, a4, fun _ => ⟨w1, hw1, ?_⟩, fun z => by rw [a1] at z; cases z⟩
    walk_at "bv"
    exact eqWl 5 trivial (by decide) rfl rfl
  · subst hb
    rw [rp_bl.mp hf.2.2]
    exact q _
end
end SF

set_option Elab.async false
set_option linter.all false
set_option maxRecDepth 100000
set_option maxHeartbeats 0
/-! the Hook of the head -/
namespace HK
open PySem PySem.Spec PyProof.Rows L2 He G9
def fn0 : List FnQ := [⟨fun K => ga K "is_integer", "is_integer", "is_integer", defArgs (SF.topS 2), defBody (SF.topS 2), defScope (SF.topS 2), []⟩, ⟨fun K => ga K "is_name", "is_name", "is_name", defArgs (SF.topS 3), defBody (SF.topS 3), defScope (SF.topS 3), []⟩, ⟨fun K => ga K "copied", "copied", "copied", defArgs (SF.topS 6), defBody (SF.topS 6), defScope (SF.topS 6), []⟩, ⟨fun K => ga K "_copy", "_copy", "_copy", defArgs (SF.topS 7), defBody (SF.topS 7), defScope (SF.topS 7), []⟩, ⟨fun K => ga K "_has_few_parts", "_has_few_parts", "_has_few_parts", defArgs (SF.topS 8), defBody (SF.topS 8), defScope (SF.topS 8), []⟩, ⟨fun K => ga K "is_event", "is_event", "is_event", defArgs (SF.topS 17), defBody (SF.topS 17), defScope (SF.topS 17), []⟩, ⟨fun K => ga K "_is_part", "_is_part", "_is_part", defArgs (SF.topS 18), defBody (SF.topS 18), defScope (SF.topS 18), []⟩, ⟨fun K => ga K "_is_value", "_is_value", "_is_value", defArgs (SF.topS 19), defBody (SF.topS 19), defScope (SF.topS 19), []⟩, ⟨fun K => ga K "_is_number", "_is_number", "_is_number", defArgs (SF.topS 20), defBody (SF.topS 20), defScope (SF.topS 20), []⟩, ⟨fun K => ga K "event_text", "event_text", "event_text", defArgs (SF.topS 22), defBody (SF.topS 22), defScope (SF.topS 22), []⟩]
def fn1 : List FnQ := [⟨fun K => ga K "_event_part", "_event_part", "_event_part", defArgs (SF.topS 23), defBody (SF.topS 23), defScope (SF.topS 23), []⟩, ⟨fun K => ga K "_law_mix", "_law_mix", "_law_mix", defArgs (SF.topS 25), defBody (SF.topS 25), defScope (SF.topS 25), []⟩, ⟨fun K => ga K "_law_source", "_law_source", "_law_source", defArgs (SF.topS 26), defBody (SF.topS 26), defScope (SF.topS 26), []⟩, ⟨fun K => ga K "_law_draw", "_law_draw", "_law_draw", defArgs (SF.topS 27), defBody (SF.topS 27), defScope (SF.topS 27), []⟩, ⟨fun K => ga K "_law_pick", "_law_pick", "_law_pick", defArgs (SF.topS 28), defBody (SF.topS 28), defScope (SF.topS 28), []⟩, ⟨fun K => ga K "_law_some", "_law_some", "_law_some", defArgs (SF.topS 29), defBody (SF.topS 29), defScope (SF.topS 29), []⟩, ⟨fun K => ga K "_law_names", "_law_names", "_law_names", defArgs (SF.topS 30), defBody (SF.topS 30), defScope (SF.topS 30), []⟩, ⟨fun K => ga K "_law_number", "_law_number", "_law_number", defArgs (SF.topS 31), defBody (SF.topS 31), defScope (SF.topS 31), []⟩, ⟨fun K => ga K "_law_value", "_law_value", "_law_value", defArgs (SF.topS 32), defBody (SF.topS 32), defScope (SF.topS 32), []⟩, ⟨fun K => ga K "_law_event", "_law_event", "_law_event", defArgs (SF.topS 33), defBody (SF.topS 33), defScope (SF.topS 33), []⟩]
def fn2 : List FnQ := [⟨fun K => ga K "_law_near", "_law_near", "_law_near", defArgs (SF.topS 34), defBody (SF.topS 34), defScope (SF.topS 34), []⟩, ⟨fun K => ga K "_law_due", "_law_due", "_law_due", defArgs (SF.topS 35), defBody (SF.topS 35), defScope (SF.topS 35), []⟩, ⟨fun K => ga K "_law_spoiled", "_law_spoiled", "_law_spoiled", defArgs (SF.topS 36), defBody (SF.topS 36), defScope (SF.topS 36), []⟩, ⟨fun K => ga K "_law_told", "_law_told", "_law_told", defArgs (SF.topS 37), defBody (SF.topS 37), defScope (SF.topS 37), []⟩, ⟨fun K => ga K "law", "law", "law", defArgs (SF.topS 38), defBody (SF.topS 38), defScope (SF.topS 38), []⟩, ⟨fun K => ma K (ga K "BadEvent") "__init__", "__init__", "BadEvent.__init__", defArgs (inClass (SF.topS 12) 0), defBody (inClass (SF.topS 12) 0), defScope (inClass (SF.topS 12) 0), ["__class__"]⟩]
def fn : List FnQ := fn0 ++ fn1 ++ fn2
def fa0 : List Fa := [.glo "is_integer", .glo "is_name", .glo "copied", .glo "_copy", .glo "_has_few_parts", .glo "StandError", .glo "BadMove", .glo "BadEvent", .glo "BadText", .glo "FORMS", .glo "is_event", .glo "_is_part", .glo "_is_value", .glo "_is_number", .glo "event_text", .glo "_event_part", .glo "_law_mix", .glo "_law_source", .glo "_law_draw", .glo "_law_pick", .glo "_law_some", .glo "_law_names", .glo "_law_number", .glo "_law_value", .glo "_law_event"]
def fa1 : List Fa := [.glo "_law_near", .glo "_law_due", .glo "_law_spoiled", .glo "_law_told", .glo "law", .free "len", .free "isinstance", .free "str", .free "tuple", .free "dict", .free "all", .free "zip", .free "range", .free "list", .free "super", .free "int", .free "min", .free "bool", .free "ValueError", .int "MOST_LETTERS" 8, .int "MOST_PARTS" 100000, .int "HIGHEST_NUMBER" 999999, .exm "BadEvent" "BadEvent" true]
def fa : List Fa := fa0 ++ fa1
def loose0 : List Str := ["MOST_LETTERS", "is_integer", "is_name", "MOST_PARTS", "copied", "_copy", "_has_few_parts", "StandError", "BadMove", "BadEvent", "BadText", "HIGHEST_NUMBER", "FORMS", "is_event", "_is_part", "_is_value", "_is_number", "event_text", "_event_part", "_law_mix", "_law_source", "_law_draw", "_law_pick", "_law_some", "_law_names", "_law_number", "_law_value", "_law_event", "_law_near", "_law_due"]
def loose1 : List Str := ["_law_spoiled", "_law_told"]
def loose : List Str := loose0 ++ loose1
def ts : List Tab := [(fun K => ga K "FORMS", SF.formsE.map (·.1))]
abbrev PR : Program := PySem.Challenge.pw_standsfor_k85_texts_of_events
def ex (K : PySem.W.Frag) : Bool := (tabB K (ga K "FORMS") SF.formsE && (err1 K (ga K "BadEvent") (ma K (ga K "BadEvent") "__init__") "event" && (err2 PR.main.file K (ga K "BadEvent") (ma K (ga K "BadEvent") "__init__") && (err3 K (ga K "BadEvent") && (oB (PySem.W.kitOne K (.ref (ga K "BadEvent")) (.ref (ga K "StandError"))) (some true) && (oB (PySem.W.kitOne K (.ref (ga K "BadEvent")) (.type "ValueError")) (some true) && (oB (PySem.W.kitOne K (.ref (ga K "BadEvent")) (.ref (ga K "BadMove"))) (some false) && (oB (PySem.W.kitOne K (.ref (ga K "BadEvent")) (.ref (ga K "BadText"))) (some false) && true))))))))
abbrev AlY : Type := Bool × (List FnS × List (Option (List (Option (Str × Int)))))
def obsY (K : PySem.W.Frag) : AlY := ((fa.all fun f => f.ok K) && ((fn.all fun d => d.ok K) && ex K), (fn.map fun d => fnQ K (d.addr K), ts.map fun t => dicW K (t.1 K)))
def valY (w : World) : AlY := (true, (fn.map FnQ.val, ts.map fun t => some (keysIn w.params t.2)))
def frY (g : Addr → Option Obj) : PySem.W.Frag := frG g (cStatics :: asD g 5)
def hk : PySem.W.Hook where
  α := AlY
  obs := fun s => obsY (frY s.heap.get?)
  val := fun w => valY w
  says := fun w h => ∃ K : PySem.W.Frag, K.In h ∧ obsY K = valY w
  of := fun _ _ e => ⟨_, frG_in, e⟩
  keeps := fun _ _ _ ⟨K, hK, c⟩ k => ⟨K, PySem.W.Frag.In.keeps hK k, c⟩
def ob (s : PySem.W.SharedT) : AlY := obsY (frY (HandSHeadRun.getT s))
theorem ob_eq (s : PySem.W.SharedT) : ob s = hk.obs s.abs := by
  have e : HandSHeadRun.getT s = s.abs.heap.get? := funext (HandSHeadRun.getT_eq s)
  show obsY (frY (HandSHeadRun.getT s)) = obsY (frY s.abs.heap.get?)
  rw [e]
abbrev R : PySem.W.OpenRow := PySem.W.OpenLaw.row PySem.Challenge.rw_standsfor_k85_texts_of_events
end HK

set_option Elab.async false
set_option linter.all false
set_option maxRecDepth 100000
set_option maxHeartbeats 0
namespace HK
open PySem PySem.Spec PyProof.Rows L2 He G9
section
variable {K : PySem.W.Frag} {w : World} {h : Heap} {mg : Str → Option Value}
theorem parts (c : obsY K = valY w) : (fa.all fun f => f.ok K) = true ∧ (fn.all fun d => d.ok K) = true ∧ ex K = true ∧ (fn.map fun d => fnQ K (d.addr K)) = fn.map FnQ.val ∧ (ts.map fun t => dicW K (t.1 K)) = ts.map fun t => some (keysIn w.params t.2) := by
  have e1 : ((fa.all fun f => f.ok K) && ((fn.all fun d => d.ok K) && ex K)) = true := congrArg (fun z : AlY => z.1) c
  obtain ⟨h1, h2⟩ := ba e1
  obtain ⟨h3, h4⟩ := ba h2
  exact ⟨h1, h3, h4, congrArg (fun z : AlY => z.2.1) c, congrArg (fun z : AlY => z.2.2) c⟩
theorem fact (c : obsY K = valY w) (i : Nat) (f : Fa) (h : fa[i]? = some f := by rfl) : f.ok K = true := List.all_eq_true.mp (parts c).1 f (List.mem_of_getElem? h)
theorem defAt (c : obsY K = valY w) (i : Nat) {d : FnQ} (h : fn[i]? = some d := by rfl) : fnQ K (d.addr K) = d.val ∧ d.ok K = true := by
  obtain ⟨_, h2, _, h4, _⟩ := parts c
  have e2 : (fn.map fun d => fnQ K (d.addr K))[i]? = (fn.map FnQ.val)[i]? := by rw [h4]
  rw [List.getElem?_map, List.getElem?_map, h] at e2
  exact ⟨Option.some.inj e2, List.all_eq_true.mp h2 d (List.mem_of_getElem? h)⟩
theorem tabAt (c : obsY K = valY w) (i : Nat) {t : Tab} (h : ts[i]? = some t := by rfl) : dicW K (t.1 K) = some (keysIn w.params t.2) := by
  obtain ⟨_, _, _, _, h5⟩ := parts c
  have e2 : (ts.map fun t => dicW K (t.1 K))[i]? = (ts.map fun t => some (keysIn w.params t.2))[i]? := by rw [h5]
  rw [List.getElem?_map, List.getElem?_map, h] at e2
  exact Option.some.inj e2
theorem intF {x : Str} {i : Int} (h : ∃ t, mg x = some (.int i t)) : SF.Int1 mg x i := by
  obtain ⟨t, e⟩ := h
  exact ⟨_, e, ⟨t, rfl⟩⟩
theorem facts (X : K.In h) (G : h.Ns mainGlobals mg) (c : obsY K = valY w) : ∃ fd : FuncData, (∀ (s : Shared) (u : Value), BindsTo s fd ⟨[u], []⟩ [("_law_script", u)]) ∧ ∀ base : Heap, K.In base → base.Ns mainGlobals mg → FnOk PR w K mg base CX0 19 (ga K "law") fd ["_law_script"] (SF.spLaw K) := by
  have T : SF.TxtE K mg := { b_len := free_ok X G (fact c 30 (.free "len")), b_list := free_ok X G (fact c 38 (.free "list")), b_int := free_ok X G (fact c 40 (.free "int")), b_range := free_ok X G (fact c 37 (.free "range")), b_isinstance := free_ok X G (fact c 31 (.free "isinstance")), b_str := free_ok X G (fact c 32 (.free "str")), b_tuple := free_ok X G (fact c 33 (.free "tuple")), b_dict := free_ok X G (fact c 34 (.free "dict")), b_bool := free_ok X G (fact c 42 (.free "bool")), b_all := free_ok X G (fact c 35 (.free "all")), b_zip := free_ok X G (fact c 36 (.free "zip")), b_super := free_ok X G (fact c 39 (.free "super")), g_MOST_PARTS := intF (int_ok X G (fact c 45 (.int "MOST_PARTS" 100000))), g_MOST_LETTERS := intF (int_ok X G (fact c 44 (.int "MOST_LETTERS" 8))), g_HIGHEST_NUMBER := intF (int_ok X G (fact c 46 (.int "HIGHEST_NUMBER" 999999))) }
  obtain ⟨v0, xx⟩ := ba (parts c).2.2.1
  have t_FORMS : BV.FTS K w mg "FORMS" SF.formsE := tab_ok (glo_ok X G (fact c 9 (.glo "FORMS"))) (tabAt c 0) v0
  obtain ⟨p0, xx⟩ := ba xx
  obtain ⟨q0, xx⟩ := ba xx
  obtain ⟨r0, xx⟩ := ba xx
  have e_BadEvent := err1_ok p0
  obtain ⟨cc_0, cda_0, kV_0, doc_0, pm_0, ct_0, an_0, S_BadEvent, hcd_BadEvent⟩ := sup_ok (d := ⟨fun K => ma K (ga K "BadEvent") "__init__", "__init__", "BadEvent.__init__", defArgs (inClass (SF.topS 12) 0), defBody (inClass (SF.topS 12) 0), defScope (inClass (SF.topS 12) 0), ["__class__"]⟩) (st := (inClass (SF.topS 12) 0)) (q := "BadEvent.__init__") p0 q0 (defAt c 25).1 (defAt c 25).2 rfl rfl rfl rfl rfl rfl (by decide +kernel)
  obtain ⟨y0, xx⟩ := ba xx
  obtain ⟨y1, xx⟩ := ba xx
  obtain ⟨y2, xx⟩ := ba xx
  obtain ⟨y3, xx⟩ := ba xx
  suffices H : ∃ fd : FuncData, L2.Fun K "law" "law" (SF.topS 38) (ga K "law") fd ∧ ∀ base : Heap, K.In base → base.Ns mainGlobals mg → FnOk PR w K mg base CX0 19 (ga K "law") fd ["_law_script"] (SF.spLaw K) by
    obtain ⟨fd, F, H⟩ := H
    refine ⟨fd, fun s u => ?_, H⟩
    obtain ⟨oc, od, kV, doc, pm, an, cdv, ct, osl, rfl, lk, hcd⟩ := F.ex
    exact .of_eq rfl
  obtain ⟨fd__has_few_parts, F__has_few_parts⟩ := FnQ.fun0 (K := K) (st := (SF.topS 8)) (d := ⟨fun K => ga K "_has_few_parts", "_has_few_parts", "_has_few_parts", defArgs (SF.topS 8), defBody (SF.topS 8), defScope (SF.topS 8), []⟩) (defAt c 4).1 (defAt c 4).2 rfl rfl rfl rfl
  have b__has_few_parts : Binds K fd__has_few_parts ["value"] [] := F__has_few_parts.binds fun _ _ _ _ _ _ us hl => match us, hl with | [_], _ => rfl
  obtain ⟨fd__copy, F__copy⟩ := FnQ.fun0 (K := K) (st := (SF.topS 7)) (d := ⟨fun K => ga K "_copy", "_copy", "_copy", defArgs (SF.topS 7), defBody (SF.topS 7), defScope (SF.topS 7), []⟩) (defAt c 3).1 (defAt c 3).2 rfl rfl rfl rfl
  have b__copy : Binds K fd__copy ["value"] [] := F__copy.binds fun _ _ _ _ _ _ us hl => match us, hl with | [_], _ => rfl
  obtain ⟨fd_copied, F_copied⟩ := FnQ.fun0 (K := K) (st := (SF.topS 6)) (d := ⟨fun K => ga K "copied", "copied", "copied", defArgs (SF.topS 6), defBody (SF.topS 6), defScope (SF.topS 6), []⟩) (defAt c 2).1 (defAt c 2).2 rfl rfl rfl rfl
  have b_copied : Binds K fd_copied ["value"] [] := F_copied.binds fun _ _ _ _ _ _ us hl => match us, hl with | [_], _ => rfl
  obtain ⟨fd_is_integer, F_is_integer⟩ := FnQ.fun0 (K := K) (st := (SF.topS 2)) (d := ⟨fun K => ga K "is_integer", "is_integer", "is_integer", defArgs (SF.topS 2), defBody (SF.topS 2), defScope (SF.topS 2), []⟩) (defAt c 0).1 (defAt c 0).2 rfl rfl rfl rfl
  have b_is_integer : Binds K fd_is_integer ["thing"] [] := F_is_integer.binds fun _ _ _ _ _ _ us hl => match us, hl with | [_], _ => rfl
  obtain ⟨fd_is_name, F_is_name⟩ := FnQ.fun0 (K := K) (st := (SF.topS 3)) (d := ⟨fun K => ga K "is_name", "is_name", "is_name", defArgs (SF.topS 3), defBody (SF.topS 3), defScope (SF.topS 3), []⟩) (defAt c 1).1 (defAt c 1).2 rfl rfl rfl rfl
  have b_is_name : Binds K fd_is_name ["thing"] [] := F_is_name.binds fun _ _ _ _ _ _ us hl => match us, hl with | [_], _ => rfl
  obtain ⟨fd__is_number, F__is_number⟩ := FnQ.fun0 (K := K) (st := (SF.topS 20)) (d := ⟨fun K => ga K "_is_number", "_is_number", "_is_number", defArgs (SF.topS 20), defBody (SF.topS 20), defScope (SF.topS 20), []⟩) (defAt c 8).1 (defAt c 8).2 rfl rfl rfl rfl
  have b__is_number : Binds K fd__is_number ["thing"] [] := F__is_number.binds fun _ _ _ _ _ _ us hl => match us, hl with | [_], _ => rfl
  obtain ⟨fd__is_value, F__is_value⟩ := FnQ.fun0 (K := K) (st := (SF.topS 19)) (d := ⟨fun K => ga K "_is_value", "_is_value", "_is_value", defArgs (SF.topS 19), defBody (SF.topS 19), defScope (SF.topS 19), []⟩) (defAt c 7).1 (defAt c 7).2 rfl rfl rfl rfl
  have b__is_value : Binds K fd__is_value ["thing"] [] := F__is_value.binds fun _ _ _ _ _ _ us hl => match us, hl with | [_], _ => rfl
  obtain ⟨fd__is_part, F__is_part⟩ := FnQ.fun0 (K := K) (st := (SF.topS 18)) (d := ⟨fun K => ga K "_is_part", "_is_part", "_is_part", defArgs (SF.topS 18), defBody (SF.topS 18), defScope (SF.topS 18), []⟩) (defAt c 6).1 (defAt c 6).2 rfl rfl rfl rfl
  have b__is_part : Binds K fd__is_part ["kind", "part"] [] := F__is_part.binds fun _ _ _ _ _ _ us hl => match us, hl with | [_, _], _ => rfl
  obtain ⟨fd_is_event, F_is_event⟩ := FnQ.fun0 (K := K) (st := (SF.topS 17)) (d := ⟨fun K => ga K "is_event", "is_event", "is_event", defArgs (SF.topS 17), defBody (SF.topS 17), defScope (SF.topS 17), []⟩) (defAt c 5).1 (defAt c 5).2 rfl rfl rfl rfl
  have b_is_event : Binds K fd_is_event ["thing"] [] := F_is_event.binds fun _ _ _ _ _ _ us hl => match us, hl with | [_], _ => rfl
  obtain ⟨fd__event_part, F__event_part⟩ := FnQ.fun0 (K := K) (st := (SF.topS 23)) (d := ⟨fun K => ga K "_event_part", "_event_part", "_event_part", defArgs (SF.topS 23), defBody (SF.topS 23), defScope (SF.topS 23), []⟩) (defAt c 10).1 (defAt c 10).2 rfl rfl rfl rfl
  have b__event_part : Binds K fd__event_part ["part"] [] := F__event_part.binds fun _ _ _ _ _ _ us hl => match us, hl with | [_], _ => rfl
  obtain ⟨fd_event_text, F_event_text⟩ := FnQ.fun0 (K := K) (st := (SF.topS 22)) (d := ⟨fun K => ga K "event_text", "event_text", "event_text", defArgs (SF.topS 22), defBody (SF.topS 22), defScope (SF.topS 22), []⟩) (defAt c 9).1 (defAt c 9).2 rfl rfl rfl rfl
  have b_event_text : Binds K fd_event_text ["event"] [] := F_event_text.binds fun _ _ _ _ _ _ us hl => match us, hl with | [_], _ => rfl
  obtain ⟨fd__law_mix, F__law_mix⟩ := FnQ.fun0 (K := K) (st := (SF.topS 25)) (d := ⟨fun K => ga K "_law_mix", "_law_mix", "_law_mix", defArgs (SF.topS 25), defBody (SF.topS 25), defScope (SF.topS 25), []⟩) (defAt c 11).1 (defAt c 11).2 rfl rfl rfl rfl
  have b__law_mix : Binds K fd__law_mix ["_law_number_here", "_law_k"] [] := F__law_mix.binds fun _ _ _ _ _ _ us hl => match us, hl with | [_, _], _ => rfl
  obtain ⟨fd__law_source, F__law_source⟩ := FnQ.fun0 (K := K) (st := (SF.topS 26)) (d := ⟨fun K => ga K "_law_source", "_law_source", "_law_source", defArgs (SF.topS 26), defBody (SF.topS 26), defScope (SF.topS 26), []⟩) (defAt c 12).1 (defAt c 12).2 rfl rfl rfl rfl
  have b__law_source : Binds K fd__law_source ["_law_script"] [] := F__law_source.binds fun _ _ _ _ _ _ us hl => match us, hl with | [_], _ => rfl
  obtain ⟨fd__law_draw, F__law_draw⟩ := FnQ.fun0 (K := K) (st := (SF.topS 27)) (d := ⟨fun K => ga K "_law_draw", "_law_draw", "_law_draw", defArgs (SF.topS 27), defBody (SF.topS 27), defScope (SF.topS 27), []⟩) (defAt c 13).1 (defAt c 13).2 rfl rfl rfl rfl
  have b__law_draw : Binds K fd__law_draw ["_law_source_here", "_law_many"] [] := F__law_draw.binds fun _ _ _ _ _ _ us hl => match us, hl with | [_, _], _ => rfl
  obtain ⟨fd__law_names, F__law_names⟩ := FnQ.fun0 (K := K) (st := (SF.topS 30)) (d := ⟨fun K => ga K "_law_names", "_law_names", "_law_names", defArgs (SF.topS 30), defBody (SF.topS 30), defScope (SF.topS 30), []⟩) (defAt c 16).1 (defAt c 16).2 rfl rfl rfl rfl
  have b__law_names : Binds K fd__law_names ["_law_source_here", "_law_many"] [] := F__law_names.binds fun _ _ _ _ _ _ us hl => match us, hl with | [_, _], _ => rfl
  obtain ⟨fd__law_number, F__law_number⟩ := FnQ.fun0 (K := K) (st := (SF.topS 31)) (d := ⟨fun K => ga K "_law_number", "_law_number", "_law_number", defArgs (SF.topS 31), defBody (SF.topS 31), defScope (SF.topS 31), []⟩) (defAt c 17).1 (defAt c 17).2 rfl rfl rfl rfl
  have b__law_number : Binds K fd__law_number ["_law_source_here"] [] := F__law_number.binds fun _ _ _ _ _ _ us hl => match us, hl with | [_], _ => rfl
  obtain ⟨fd__law_value, F__law_value⟩ := FnQ.fun0 (K := K) (st := (SF.topS 32)) (d := ⟨fun K => ga K "_law_value", "_law_value", "_law_value", defArgs (SF.topS 32), defBody (SF.topS 32), defScope (SF.topS 32), []⟩) (defAt c 18).1 (defAt c 18).2 rfl rfl rfl rfl
  have b__law_value : Binds K fd__law_value ["_law_source_here"] [] := F__law_value.binds fun _ _ _ _ _ _ us hl => match us, hl with | [_], _ => rfl
  obtain ⟨fd__law_event, F__law_event⟩ := FnQ.fun0 (K := K) (st := (SF.topS 33)) (d := ⟨fun K => ga K "_law_event", "_law_event", "_law_event", defArgs (SF.topS 33), defBody (SF.topS 33), defScope (SF.topS 33), []⟩) (defAt c 19).1 (defAt c 19).2 rfl rfl rfl rfl
  have b__law_event : Binds K fd__law_event ["_law_source_here"] [] := F__law_event.binds fun _ _ _ _ _ _ us hl => match us, hl with | [_], _ => rfl
  obtain ⟨fd__law_near, F__law_near⟩ := FnQ.fun0 (K := K) (st := (SF.topS 34)) (d := ⟨fun K => ga K "_law_near", "_law_near", "_law_near", defArgs (SF.topS 34), defBody (SF.topS 34), defScope (SF.topS 34), []⟩) (defAt c 20).1 (defAt c 20).2 rfl rfl rfl rfl
  have b__law_near : Binds K fd__law_near ["_law_source_here", "_law_event_here"] [] := F__law_near.binds fun _ _ _ _ _ _ us hl => match us, hl with | [_, _], _ => rfl
  obtain ⟨fd__law_due, F__law_due⟩ := FnQ.fun0 (K := K) (st := (SF.topS 35)) (d := ⟨fun K => ga K "_law_due", "_law_due", "_law_due", defArgs (SF.topS 35), defBody (SF.topS 35), defScope (SF.topS 35), []⟩) (defAt c 21).1 (defAt c 21).2 rfl rfl rfl rfl
  have b__law_due : Binds K fd__law_due ["_law_event_here"] [] := F__law_due.binds fun _ _ _ _ _ _ us hl => match us, hl with | [_], _ => rfl
  obtain ⟨fd__law_spoiled, F__law_spoiled⟩ := FnQ.fun0 (K := K) (st := (SF.topS 36)) (d := ⟨fun K => ga K "_law_spoiled", "_law_spoiled", "_law_spoiled", defArgs (SF.topS 36), defBody (SF.topS 36), defScope (SF.topS 36), []⟩) (defAt c 22).1 (defAt c 22).2 rfl rfl rfl rfl
  have b__law_spoiled : Binds K fd__law_spoiled ["_law_source_here", "_law_event_here"] [] := F__law_spoiled.binds fun _ _ _ _ _ _ us hl => match us, hl with | [_, _], _ => rfl
  obtain ⟨fd__law_told, F__law_told⟩ := FnQ.fun0 (K := K) (st := (SF.topS 37)) (d := ⟨fun K => ga K "_law_told", "_law_told", "_law_told", defArgs (SF.topS 37), defBody (SF.topS 37), defScope (SF.topS 37), []⟩) (defAt c 23).1 (defAt c 23).2 rfl rfl rfl rfl
  have b__law_told : Binds K fd__law_told ["_law_event_here"] [] := F__law_told.binds fun _ _ _ _ _ _ us hl => match us, hl with | [_], _ => rfl
  obtain ⟨fd_law, F_law⟩ := FnQ.fun0 (K := K) (st := (SF.topS 38)) (d := ⟨fun K => ga K "law", "law", "law", defArgs (SF.topS 38), defBody (SF.topS 38), defScope (SF.topS 38), []⟩) (defAt c 24).1 (defAt c 24).2 rfl rfl rfl rfl
  have b_law : Binds K fd_law ["_law_script"] [] := F_law.binds fun _ _ _ _ _ _ us hl => match us, hl with | [_], _ => rfl
  refine ⟨fd_law, F_law, fun base hb hbn => ?_⟩
  have TD : SF.TxtD K mg := T.toTxtD
  have c__has_few_parts : C8.Cal PR w K mg base 1 "_has_few_parts" (BV.SpB SF.G3 K SF.WFew) [] := ⟨_, _, _, [], SF.ok_few T F__has_few_parts, glo_ok X G (fact c 4 (.glo "_has_few_parts")), F__has_few_parts.kp, b__has_few_parts, .nil⟩
  have c__copy : C8.Cal PR w K mg base 13 "_copy" (BV.SpB SF.G3 K (SF.WCopy 12)) [] := SF.copies T F__copy (fun k sp h => ⟨_, _, _, [], h, glo_ok X G (fact c 3 (.glo "_copy")), F__copy.kp, b__copy, .nil⟩) 12
  have c_copied : C8.Cal PR w K mg base 14 "copied" (BV.SpB SF.G3 K SF.WCopied) [] := ⟨_, _, _, [], SF.ok_copied T c__copy c__has_few_parts F_copied, glo_ok X G (fact c 2 (.glo "copied")), F_copied.kp, b_copied, .nil⟩
  have c_is_integer : C8.Cal PR w K mg base 1 "is_integer" (BV.SpB SF.G3.lo K SF.WIsInt) [] := ⟨_, _, _, [], SF.ok_isInt T F_is_integer, glo_ok X G (fact c 0 (.glo "is_integer")), F_is_integer.kp, b_is_integer, .nil⟩
  have c_is_name : C8.Cal PR w K mg base 1 "is_name" (BV.SpB SF.G3.lo K SF.WIsName) [] := ⟨_, _, _, [], SF.ok_isName T F_is_name, glo_ok X G (fact c 1 (.glo "is_name")), F_is_name.kp, b_is_name, .nil⟩
  have c__is_number : C8.Cal PR w K mg base 2 "_is_number" (BV.SpB SF.G3.lo K SF.WIsNum) [] := ⟨_, _, _, [], SF.ok_isNum T c_is_integer F__is_number, glo_ok X G (fact c 13 (.glo "_is_number")), F__is_number.kp, b__is_number, .nil⟩
  have c__is_value : C8.Cal PR w K mg base 3 "_is_value" (BV.SpB SF.G3.lo K SF.WVal) [] := ⟨_, _, _, [], SF.ok_isVal T c_is_name c__is_number F__is_value, glo_ok X G (fact c 12 (.glo "_is_value")), F__is_value.kp, b__is_value, .nil⟩
  have c__is_part : C8.Cal PR w K mg base 4 "_is_part" (BV.SpB SF.G3.lo K SF.WPart) [] := ⟨_, _, _, [], SF.ok_isPart T c_is_name c__is_number c__is_value F__is_part, glo_ok X G (fact c 11 (.glo "_is_part")), F__is_part.kp, b__is_part, .nil⟩
  have c_is_event : C8.Cal PR w K mg base 5 "is_event" (BV.SpB SF.G3.lo K SF.WIsEv) [] := ⟨_, _, _, [], SF.ok_isEv T t_FORMS c__is_part F_is_event, glo_ok X G (fact c 10 (.glo "is_event")), F_is_event.kp, b_is_event, .nil⟩
  have c__event_part : C8.Cal PR w K mg base 1 "_event_part" (BV.SpB SF.G3.lo K SF.WEvPart) [] := ⟨_, _, _, [], SF.ok_evPart T F__event_part, glo_ok X G (fact c 15 (.glo "_event_part")), F__event_part.kp, b__event_part, .nil⟩
  have E_BadEvent : SF.ErrC PR w K mg base "BadEvent" (ga K "BadEvent") 15 ["self", "event"] (BV.SpI SF.G3 K (ga K "BadEvent") "event" SF.CpOk) := ⟨e_BadEvent.oex, ⟨_, _, e_BadEvent.ini, e_BadEvent.ty, SF.ok_BE (P := PR) (w := w) (base := base) T c_copied e_BadEvent.oex e_BadEvent.no S_BadEvent hcd_BadEvent, Binds.all (fd := PySem.W.ksFn "__init__" "BadEvent.__init__" (defArgs (inClass (SF.topS 12) 0)) (defBody (inClass (SF.topS 12) 0)) (defScope (inClass (SF.topS 12) 0)) .none kV_0 doc_0 pm_0 an_0 (.ref cda_0) ct_0 cc_0) fun us hl => match us, hl with | [_, _], _ => rfl⟩, glo_ok X G (fact c 7 (.glo "BadEvent"))⟩
  have c_event_text : SF.CalS PR w K mg base 17 "event_text" ["event"] (BV.SpX SF.G3 K [((ga K "BadEvent"), some "event")] (SF.WText (ga K "BadEvent"))) := ⟨⟨_, _, SF.ok_evText T E_BadEvent c_is_event c__event_part F_event_text, glo_ok X G (fact c 14 (.glo "event_text")), F_event_text.kp, b_event_text⟩⟩
  have c__law_mix : C8.Cal PR w K mg base 1 "_law_mix" (SF.spMix) [] := ⟨_, _, _, [], SF.ok_mix TD F__law_mix, glo_ok X G (fact c 16 (.glo "_law_mix")), F__law_mix.kp, b__law_mix, .nil⟩
  have c__law_source : C8.Cal PR w K mg base 1 "_law_source" (SF.spSource K) [] := ⟨_, _, _, [], SF.ok_source TD F__law_source, glo_ok X G (fact c 17 (.glo "_law_source")), F__law_source.kp, b__law_source, .nil⟩
  have c__law_draw : C8.Cal PR w K mg base 2 "_law_draw" (BV.SpB SF.G3.lo K SF.WDraw) [] := ⟨_, _, _, [], SF.ok_draw TD c__law_mix F__law_draw, glo_ok X G (fact c 18 (.glo "_law_draw")), F__law_draw.kp, b__law_draw, .nil⟩
  have c__law_names : C8.Cal PR w K mg base 3 "_law_names" (BV.SpB SF.G3 K SF.WNames) [] := ⟨_, _, _, [], SF.ok_names TD c__law_draw F__law_names, glo_ok X G (fact c 21 (.glo "_law_names")), F__law_names.kp, b__law_names, .nil⟩
  have c__law_number : C8.Cal PR w K mg base 3 "_law_number" (BV.SpB SF.G3 K SF.WNumber) [] := ⟨_, _, _, [], SF.ok_number TD c__law_draw F__law_number, glo_ok X G (fact c 22 (.glo "_law_number")), F__law_number.kp, b__law_number, .nil⟩
  have c__law_value : C8.Cal PR w K mg base 4 "_law_value" (BV.SpB SF.G3 K SF.WValue) [] := ⟨_, _, _, [], SF.ok_value TD c__law_draw c__law_number c__law_names F__law_value, glo_ok X G (fact c 23 (.glo "_law_value")), F__law_value.kp, b__law_value, .nil⟩
  have c__law_event : C8.Cal PR w K mg base 5 "_law_event" (BV.SpB SF.G3 K SF.WEvent) [] := ⟨_, _, _, [], SF.ok_event TD c__law_draw c__law_number c__law_names c__law_value F__law_event, glo_ok X G (fact c 24 (.glo "_law_event")), F__law_event.kp, b__law_event, .nil⟩
  have c__law_near : C8.Cal PR w K mg base 6 "_law_near" (BV.SpB SF.G3 K SF.WNear) [] := ⟨_, _, _, [], SF.ok_near TD c__law_draw c__law_value c__law_event F__law_near, glo_ok X G (fact c 25 (.glo "_law_near")), F__law_near.kp, b__law_near, .nil⟩
  have c__law_due : C8.Cal PR w K mg base 1 "_law_due" (BV.SpB SF.G3.lo K SF.WDue) [] := ⟨_, _, _, [], SF.ok_due T F__law_due, glo_ok X G (fact c 26 (.glo "_law_due")), F__law_due.kp, b__law_due, .nil⟩
  have c__law_spoiled : C8.Cal PR w K mg base 3 "_law_spoiled" (BV.SpB SF.G3 K SF.WSpoil) [] := ⟨_, _, _, [], SF.ok_spoil T c__law_draw F__law_spoiled, glo_ok X G (fact c 27 (.glo "_law_spoiled")), F__law_spoiled.kp, b__law_spoiled, .nil⟩
  have LE : SF.LawE K mg (ga K "BadEvent") (ga K "StandError") (ga K "BadMove") (ga K "BadText") := ⟨(glo_ok X G (fact c 7 (.glo "BadEvent"))), (glo_ok X G (fact c 5 (.glo "StandError"))), (glo_ok X G (fact c 6 (.glo "BadMove"))), (glo_ok X G (fact c 8 (.glo "BadText"))), (free_ok X G (fact c 43 (.free "ValueError"))), e_BadEvent.xf, err3_ok r0, e_BadEvent.no, exm_ok (fact c 47 (.exm "BadEvent" "BadEvent" true)), of_decide_eq_true y0, of_decide_eq_true y1, of_decide_eq_true y2, of_decide_eq_true y3⟩
  have c__law_told : C8.Cal PR w K mg base 18 "_law_told" (BV.SpB SF.G3 K SF.WTold) [] := ⟨_, _, _, [], SF.ok_told T LE c_event_text F__law_told, glo_ok X G (fact c 28 (.glo "_law_told")), F__law_told.kp, b__law_told, .nil⟩
  exact SF.ok_law T c__law_source c__law_draw c__law_event c__law_near c__law_due c__law_spoiled c__law_told F_law
end
end HK

set_option Elab.async false
set_option linter.all false
set_option maxRecDepth 1000000
set_option maxHeartbeats 0
namespace HK
open PySem PySem.Spec PyProof.Rows L2 He G9
theorem runF (w : World) : HandSHeadRun.RunEq R (PySem.W.view R.prog [38]) hk ob 8000 loose (w.withFollow "special-get-raises" false) := by
  intro os
  kernel_rfl
theorem runT (w : World) : HandSHeadRun.RunEq R (PySem.W.view R.prog [38]) hk ob 8000 loose (w.withFollow "special-get-raises" true) := by
  intro os
  kernel_rfl
end HK

set_option Elab.async false
set_option linter.all false
set_option maxRecDepth 1000000
set_option maxHeartbeats 0
open PySem PySem.W PySem.Calls PyProof.Rows
theorem PySem.Challenge.cw_standsfor_k85_texts_of_events_holds : PySem.Challenge.rw_standsfor_k85_texts_of_events.Holds := by
  w_on; o_law
  refine HandSHeadRun.head_any (r := OpenLaw.row PySem.Challenge.rw_standsfor_k85_texts_of_events) (q := view (OpenLaw.row PySem.Challenge.rw_standsfor_k85_texts_of_events).prog [38]) (H := HK.hk) (ob := HK.ob) (M := 8000) (loose := HK.loose) (d := HandSHeadRun.topDef (OpenLaw.row PySem.Challenge.rw_standsfor_k85_texts_of_events).prog 38) (kwd := []) HK.ob_eq
    (by kernel_rfl) (fun s => by kernel_rfl) (byRow2 "special-get-raises" HK.runF HK.runT) (by kernel_rfl) (by kernel_rfl) (by kernel_rfl) (by rfl) (by first | assumption | decide +kernel) (by decide +kernel) ⟨rfl, rfl, rfl, rfl, rfl, by decide +kernel⟩ ?hw ?hc
  case hw => w_witness2
  case hc =>
    refine L2.walk_ofE (l := PySem.Challenge.rw_standsfor_k85_texts_of_events) (n := 63) (k := 19) (x := "_law_script") (CX := L2.CX0) rfl (by decide) (by kernel_rfl) ⟨rfl, by decide, by decide⟩ ?F (fun _ _ _ _ z => z)
    intro w mg fa h Y G hmg0
    obtain ⟨K, KX, c⟩ := Y
    have hmg : mg ("law" : PySem.Str) = some (.ref fa) := by
      have e : (HandSHeadRun.topDef (OpenLaw.row PySem.Challenge.rw_standsfor_k85_texts_of_events).prog 38).name = ("law" : PySem.Str) := by kernel_rfl
      rw [← e]
      exact hmg0
    have e2 := hmg.symm.trans (He.glo_ok KX G (HK.fact c 29 (.glo "law")))
    cases e2
    obtain ⟨fd, hb, hF⟩ := HK.facts (w := w) KX G c
    exact ⟨K, fd, SF.spLaw K, KX, hb, fun H a ns hl _ hS => ⟨a, ns, rfl, hS, hl, fun _ => rfl⟩, hF⟩
