import PyProof.Rows.All
import Wide.All
import OpenK.AllK
import Wide.FinOn
import PyProof.EqAt
import PyProof.EqKinds
import PyProof.TupleCall
import KE.KExcSuper
import HandS.Base
import HandS.Call
import HandS.List
import HandS.Dict
import HandS.More
import HandS.Exc
import HandS.ExcInit
import HandS.Codes
import HandS.ExcSuper
import HandS.Strs
import HandS.SetKeys
import HandS.ForMost
import HandS.IsInst
import HandS.ForExc
import HandS.Conv
import HandS.StrMore
import HandS.DictComp
import HandS.Property
import HandS.TupAny
import HandS.TupMul
import HandS.Zip
import HandS.FStr
import HandS.Steps
import HandS.Walk
import HandS.HeadHook1
import HandS.HeadHook2
import HandS.HeadHook3
import HandS.ExcField
import HandS.DeepEq
import HandS.OwnEq
import HandS.ExcOwn
import HandS.TryOnly
import HandS.TryMany
import HandS.WordsExc
import HandS.Wide
import HandS.WideMore
import KE.KStateDown
import HandS.Head0
import HandS.Head1
import HandS.Head2
import HandS.HeadEnd
import PySem.Challenge.RW_standsfor_k04_places
set_option Elab.async false
set_option linter.all false
set_option maxRecDepth 100000
set_option maxHeartbeats 4000000
/-! rules of our own: a written table's get; an own exception whose __init__ begins with super().__init__(text) -/
namespace G0
open PySem PySem.Spec PyProof.Rows L2
/-! ### get of a written dict with text keys -/
def KD (K : PySem.W.Frag) (w : World) (p : Addr) : Prop := ∃ es n, KDict K w p es n
def tKGet (K : PySem.W.Frag) (w : World) (td ty : TE) : TE := fun σ H Q => td σ H fun x H1 => ∃ p, x = .ref p ∧ KD K w p ∧ ty σ H1 fun y H2 => ∃ z r, y = .str z ∧ PySem.W.nsIn K p z = some r ∧
  (∀ u, r = some u → ∃ v, RelV v u ∧ Q v H2) ∧ (r = none → Q .non H2)
section
variable {X : Cx} {o e : Expr} {apos cpos : Pos} {td ty : TE}
theorem pe_kget (ho : PE X o td) (he : PE X e ty) (m : M1 X o "get" apos e cpos) : PE X (.Call (.Attribute o "get" apos) [e] [] cpos) (tKGet X.K X.w td ty) := by
  refine ⟨fun pins s σ H Q I h => ?_⟩
  refine wpAny_Call_method m.base m.few m.line PySem.F.plainAttrs_dict PySem.F.slot_dict_get PySem.F.type_dict_get (thn (ho.run pins s σ H _ I h) fun u s1 ⟨x, H1, I1, rx, p, ex, ⟨es, n, D⟩, q1⟩ => ?_)
  subst ex
  obtain rfl : u = Value.ref p := rx
  refine ⟨kd_type D I1, fun b q => ?_, ?_⟩
  · cases q
    exact ⟨_, I1.kIn _ _ D.at_, rfl⟩
  rw [m.trees]
  refine Calls.callWith_builtin rfl (Calls.evalArgs_plain (Calls.spliced_cons (thn (he.run pins s1 σ H1 _ I1 q1) fun iv s2 ⟨y, H2, I2, ry, z, r, ey, en, q2, q3⟩ => Calls.spliced_nil ?_)))
  subst ey
  obtain ⟨t, rfl⟩ := ry
  have hm := PySem.W.mapOf_K (prog := X.prog) (w := X.w) I2.kIn D.at_ D.lit
  refine call_meetsIn PySem.F.slot_dict_get hm.typeIs PySem.F.entry_dict_get (PySem.F.args_dict_get_2 _ _) (meets_dict_get (strKind X.prog X.w) p (strKind_is X.prog X.w z t) D.low) ⟨_, hm, ?_⟩
  have hf := PySem.W.find_K D.at_ en
  rw [hf]
  cases r with
  | none => exact ⟨.non, H2, I2.tok _, rfl, q3 rfl⟩
  | some u =>
    obtain ⟨v, rv, q⟩ := q2 u rfl
    exact ⟨v, H2, I2.tok _, rv, q⟩
end
end G0

set_option Elab.async false
set_option linter.all false
set_option maxRecDepth 100000
set_option maxHeartbeats 4000000
namespace G1
open PySem PySem.Spec PySem.Calls PySem.W PyProof.Rows
section
variable {prog : Program} {w : World} {A : Around} {E : Value → Shared → Prop} {h : Heap} {g : Array GenState} {d : Drawn} {t : Nat} {os : OsState}
variable {nm q : Str} {C N : Addr} {bs bm : List Value} {hdct : Bool} {sn : List Str} {sub : List Value} {ab : Bool} {col : Option Bool} {dd : Option Addr} {k0 k1 k2 k3 k5 : Option Value}
/-- the bound ValueError.__init__, called -/
theorem call_bw {u e t0 : Addr} {rest : List Value} {Q : Value → Shared → Prop}
    (hC : h.get? C = some (excClassObj nm q C N bs bm hdct sn sub ab col dd k0 k1 k2 k3 k5 "ValueError.__new__")) (he : h.get? e = some (HandSPX.excO C t0)) (hu : h.get? u = some (kxs_mw "ValueError.__init__" e)) (hrest : rest.length ≤ sizeLine)
    (hq : ∀ h' t1, (∀ b o, b ≠ e → h.get? b = some o → h'.get? b = some o) → h'.get? e = some (HandSPX.excO C t1) → Q .none ⟨h', g, d, t, os⟩) :
    wpAny (model prog w) A (call (.ref u) rest) Q E ⟨h, g, d, t, os⟩ := by
  refine wpAny_call (codeAny_of_tree ?_)
  show wpAny _ A.in1 (callAny (.ref u) ⟨rest, []⟩) _ _ _
  simp only [callAny]
  refine wpAny_bind (wpAny_load hu ?_)
  simp only [kxs_mw, show (Value.type "method-wrapper" == Value.type "method" || Value.type "method-wrapper" == Value.type "builtin_function_or_method" || Value.type "method-wrapper" == Value.type "method-wrapper") = true by decide, if_true]
  refine KFB.if_so (by decide) ?_
  refine wpAny_bind (PySem.ESX.check_bound F.excBase_ValueError hC he rfl ?_)
  refine wpAny_bind (wpAny_pure (wpAny_pure ?_))
  refine ⟨Code.quiet_builtin _ (by decide +kernel), codeAny_builtin F.excBase_ValueError.initEntry ?_⟩
  rw [Around.under_plainId F.excBase_ValueError.init.plain _]
  wp_walk
  refine hq _ h.objs.size (fun b o hb ho => ?_) ?_
  · rw [Heap.get?_update_other _ _ (Ne.symm hb)]
    exact Heap.get?_push_of_some _ ho
  · rw [Heap.get?_update_self _ (Heap.get?_push_of_some _ he) rfl]
    rfl
end
/-- what the written part says of an own exception class at C whose __init__ (at f) begins with super().__init__(text) -/
structure SupC (K : Frag) (prog : Program) (C f cc cda : Addr) (fd : FuncData) : Prop where
  cls : ∃ nm q N bs bm sn sub ab col dd k0 k1 k2 k3 k5, K.lookup C = some (excClassObj nm q C N bs bm true sn sub ab col dd k0 k1 k2 k3 k5 "ValueError.__new__") ∧ HandSPX.refsVE bm = true
  fn : ∃ oc od osl, K.lookup f = some ⟨oc, od, .func fd, osl⟩
  code : ∃ ccl cdd vs ccs file tf, K.lookup cda = some ⟨ccl, cdd, .fields vs, ccs⟩ ∧ vs[2]? = some (.str file tf) ∧ ((prog.main.file : Str) == file) = true
  cell : ∃ cl cld csl, K.lookup cc = some ⟨cl, cld, .cell (some (.ref C)), csl⟩
  mro : mroIn K C (.ref C) = some true
  opq : nsIn K cStatics "thirdparty.any" = some none
  along : ks_superIn K C C "__init__" = some (some (.builtin "ValueError.__init__"))
  sub : subIn K (.ref C) (.type "ValueError") = some true
  top : (prog.main.scope.names.lookup ("super" : Str)).isSome = false
section
variable {prog : Program} {w : World} {A : Around} {E : Value → Shared → Prop} {K : Frag} {mg mb m : Str → Option Value} {C f cc cda x t1 L : Addr} {fd : FuncData} {hh : Heap} {g : Array GenState} {d : Drawn} {tk : Nat} {os : OsState}
theorem super_raw {body : List Stmt} {qual : Str} {scope : Scope} {p0 p1 p2 p3 p4 p5 : Pos} {mz : Str} {jz : Nat} {ar : Arg} {pl : Sem Bool} {Q : Flow → Shared → Prop}
    (T : SupC K prog C f cc cda fd) (X : K.In hh) (G : hh.Ns mainGlobals mg) (hsup : mg "super" = none) (B : hh.Ns builtinsNs mb) (hB : mb "super" = some (.type "super"))
    (hp : (fd.params.posonlyargs ++ fd.params.args).head? = some ar) (hn : hh.Ns L m) (hv : m ar.arg = some (.ref x)) (hx : hh.get? x = some (HandSPX.excO C t1))
    (hks : scope.names.lookup ("super" : Str) = some .globalImplicit) (hkc : scope.names.lookup ("__class__" : Str) = some .free) (hka : scope.names.lookup ar.arg = some .local) (hk : scope.kind = .function)
    (hcall : eval (.Call (.Attribute (.Call (.Name "super" p0) [] [] p1) "__init__" p2) [.Constant (.str mz) jz p3] [] p4) (ksEnv qual scope L f (.ref cda) cc) = (do
      let ov ← attributeBase (.Call (.Name "super" p0) [] [] p1) "__init__" (ksEnv qual scope L f (.ref cda) cc) (eval (.Call (.Name "super" p0) [] [] p1) (ksEnv qual scope L f (.ref cda) cc))
      standAt p2.atName
      let (fz, first) ← holding [ov] (getMethod ov "__init__" pl)
      callWith p4 fz first (backTo p4 (starEach [.Constant (.str mz) jz p3] (ksEnv qual scope L f (.ref cda) cc))) []))
    (hi : interactive (ksEnv qual scope L f (.ref cda) cc) = false) (hsw : swapsWith (.Call (.Attribute (.Call (.Name "super" p0) [] [] p1) "__init__" p2) [.Constant (.str mz) jz p3] [] p4) none p5.line (ksEnv qual scope L f (.ref cda) cc) = pure false)
    (hq : ∀ h' tk' t2, (∀ b o, b ≠ x → hh.get? b = some o → h'.get? b = some o) → h'.get? x = some (HandSPX.excO C t2) → Q .next ⟨h', g, d, tk', os⟩) :
    _root_.PySem.wpAt (model prog w) A (.func body (ksEnv qual scope L f (.ref cda) cc)) (exec (.Expr (.Call (.Attribute (.Call (.Name "super" p0) [] [] p1) "__init__" p2) [.Constant (.str mz) jz p3] [] p4) p5) (ksEnv qual scope L f (.ref cda) cc)) Q E ⟨hh, g, d, tk, os⟩ := by
  obtain ⟨nm, q, N, bs, bm, sn, sub, ab, col, dd, k0, k1, k2, k3, k5, hC, hbm⟩ := T.cls
  obtain ⟨oc, od, osl, hf⟩ := T.fn
  obtain ⟨ccl, cdd, vs, ccs, file, tf, hcode, hvs, hfile⟩ := T.code
  obtain ⟨cl, cld, csl, hcell⟩ := T.cell
  have hcd : clsIn K C = some { name := nm, bases := bs, mro := .ref C :: bm, ns := N, qualname := q, hasDict := true, slotNames := sn, subclasses := sub, abstract := ab, collection := col, hasDel := false } := by unfold clsIn; rw [hC] <;> rfl
  have I : InstAt hh x (HandSPX.excO C t1) C none := ⟨hx, rfl, rfl, trivial⟩
  refine ks_wpAt_Expr_any ?_ hi hsw
  refine ks_wpAt_MethodCall (he := hcall) ?_
  refine ks_wpAt_super_base (env := ksEnv qual scope L f (.ref cda) cc) hks hkc rfl rfl (X _ _ hf) rfl hp rfl (X _ _ hcode) rfl hvs hfile T.top ?_
  refine ks_loadName_global hk hks (loadGlobal_builtin (env := ksEnv qual scope L f (.ref cda) cc) G hsup B hB ⟨rfl, ?_⟩)
  refine wpAny_loadName_free hk hkc rfl ⟨_, X _ _ hcell, rfl⟩ ?_
  refine wpAny_loadName_local hk hka hn hv ?_
  have hD1 : hh.get? C = some (excClassObj nm q C N bs bm true sn sub ab col dd k0 k1 k2 k3 k5 "ValueError.__new__") := X _ _ hC
  refine ks_wpAny_isType_cls hD1 rfl ⟨rfl, ?_⟩
  refine ks_wpAny_call_super hD1 rfl I.at_ I.cls (fun c e => by cases e) (looks_mroIn X T.mro) (fun h1 e1 kp1 => ?_)
  have X1 : K.In h1 := X.keeps kp1
  have I1 : InstAt h1 x (HandSPX.excO C t1) C none := ⟨kp1 _ _ hx, rfl, rfl, trivial⟩
  have hne : x ≠ C := ks_ne X1 I1 hcd
  have hal := T.along
  unfold ks_superIn at hal
  rw [hcd] at hal
  refine kxs_getMethod kxs_ValueError e1 (looks_opaque X1 T.opq) (l₀ := .ref C :: bm) ?_ rfl X1 hal (I1.type.andThen (looks_subIn X1 T.sub)) hne rfl ?_
  · exact fun A Q E s k q => wpAny_bind ((looks_clsIn X1 hcd) A _ E s k (wpAny_pure q))
  have kp2 : ∀ b o, h1.get? b = some o → (h1.push (kxs_mw "ValueError.__init__" x)).get? b = some o := fun b o e => Heap.get?_push_of_some _ e
  have hu : (h1.push (kxs_mw "ValueError.__init__" x)).get? h1.objs.size = some (kxs_mw "ValueError.__init__" x) := Heap.get?_push_at rfl rfl
  refine kxs_callWith (i := "ValueError.__init__") (x := x) rfl ?_
  refine evalArgs_plain (args_cons (wpAny_Constant_str (args_nil ⟨hu, ?_⟩)) rfl)
  refine call_bw (kp2 _ _ (X1 _ _ hC)) (kp2 _ _ (kp1 _ _ hx)) hu (by show 1 ≤ sizeLine; rw [sizeLine_eq]; decide) fun h' t2 k' hx' => ?_
  exact hq _ _ t2 (fun b o hb e => k' b o hb (kp2 _ _ (kp1 _ _ e))) hx'
end
end G1
namespace G1
open PySem PySem.Spec PyProof.Rows L2
open PySem.W (ksEnv ksFn)
theorem lookup_rev {l : List (Str × Value)} {y : Str} {u : Value} (h : (y, u) ∈ l) (nd : (l.map (·.1)).Nodup) : l.reverse.lookup y = some u := by
  have hm : (y, u) ∈ l.reverse := List.mem_reverse.mpr h
  have nd2 : (l.reverse.map (·.1)).Nodup := by
    rw [List.map_reverse]
    exact List.pairwise_reverse.mpr (List.Pairwise.imp (fun h => Ne.symm h) nd)
  generalize l.reverse = r at hm nd2
  induction r with
  | nil => cases hm
  | cons p r ih =>
    obtain ⟨z, v⟩ := p
    rw [List.map_cons, List.nodup_cons] at nd2
    rcases List.mem_cons.mp hm with e | e
    · obtain ⟨rfl, rfl⟩ := Prod.mk.inj e
      simp [List.lookup]
    · have hne : (y == z) = false := by
        rw [beq_eq_false_iff_ne]
        rintro rfl
        exact nd2.1 (List.mem_map_of_mem (f := (·.1)) e)
      simp only [List.lookup, hne]
      exact ih e nd2.2
/-- names: the parameters first; nothing is free but __class__ -/
structure SScope (N P : List Str) (sc : Scope) : Prop where
  kind : sc.kind = .function
  co : sc.isCoroutine = false
  gen : sc.isGenerator = false
  nd : N.Nodup
  pre : N.take P.length = P
  par : ∀ x ∈ P, sc.names.lookup x = some .local
  nocell : ∀ y ∈ sc.names, y.2 ≠ .cell
  free1 : ∀ y ∈ sc.names, y.2 = .free → y.1 = "__class__"
  fr : sc.names.lookup ("__class__" : Str) = some .free
def cxS (CX : CXT) (P : Program) (w : World) (K : PySem.W.Frag) (mg : Str → Option Value) (base : Heap) (N : List Str) (qual : Str) (scope : Scope) (f cc : Addr) (cd : Value) (A : Around) (outer : List Env) (s : Shared) (H : Hp) (E : XK) : Cx where
  prog := P
  w := w
  K := K
  mg := mg
  base := base
  A := A.deeper (ksEnv qual scope s.heap.objs.size f cd cc)
  N := N
  s_0 := s
  H_0 := H
  env := ksEnv qual scope s.heap.objs.size f cd cc
  outer := outer
  stack := ksEnv qual scope s.heap.objs.size f cd cc :: outer
  ex := []
  calm := true
  fn := fun x => !(x == ("__class__" : Str))
  pn := []
  xe := fun e s' => wpAny (model P w) (A.deeper (ksEnv qual scope s.heap.objs.size f cd cc)) (leaving (ksEnv qual scope s.heap.objs.size f cd cc) e) (fun _ s'' => CX outer H s E e s'') (fun e' s'' => CX outer H s E e' s'') s'
theorem inv_startS {CX : CXT} {P : Program} {w : World} {K : PySem.W.Frag} {mg : Str → Option Value} {base : Heap} {N ps : List Str} {qual : Str} {scope : Scope} {f cc : Addr} {cd : Value} {A : Around} {outer : List Env} {s : Shared} {H : Hp} {E : XK} {us : List Value} {vs : List V}
    {h1 : Heap} {tk : Nat} (S : SScope N ps scope) (hd : A.handled = none) (e0 : Env0 P w K mg base A outer s H) (hl : vs.length = ps.length) (r : Vals vs us) (hcc : ∃ oc v, K.lookup cc = some oc ∧ oc.data = .cell (some v))
    (hns : h1.Ns s.heap.objs.size (fun x => (ps.zip us).reverse.lookup x)) (hk : ∀ b o, s.heap.get? b = some o → h1.get? b = some o) :
    Inv (cxS CX P w K mg base N qual scope f cc cd A outer s H E) [] (L2.start N vs) H { s with heap := h1, toks := tk } := by
  have hpl : ps.length ≤ N.length := by have := congrArg List.length S.pre; rw [List.length_take] at this; omega
  have noA : ∀ b : Addr, b ∉ (cxS CX P w K mg base N qual scope f cc cd A outer s H E).ex := fun b z => absurd (show b ∈ ([] : List Addr) from z) (by simp)
  have cl : ∀ y c, (cxS CX P w K mg base N qual scope f cc cd A outer s H E).env.cells.lookup y = some c → y = ("__class__" : Str) ∧ c = cc := fun y c h => by
    have h' : List.lookup y [(("__class__" : Str), cc)] = some c := h
    by_cases e : y = ("__class__" : Str)
    · subst e
      simp [List.lookup] at h'
      exact ⟨rfl, h'.symm⟩
    · have e2 : (y == ("__class__" : Str)) = false := by simpa using e
      simp [List.lookup, e2] at h'
  have hcl : (cxS CX P w K mg base N qual scope f cc cd A outer s H E).env.cells.lookup ("__class__" : Str) = some cc := by
    show List.lookup ("__class__" : Str) [(("__class__" : Str), cc)] = some cc
    simp [List.lookup]
  obtain ⟨oc, cv, hc1, hc2⟩ := hcc
  have hb1 : base.get? cc = some oc := e0.mod.kin _ _ hc1
  have hb2 := e0.bs _ _ hb1
  refine ⟨⟨e0.mod, S.kind, rfl, rfl, Nat.le_refl _, fun y z c h1 h2 => ?_, fun y hy => ?_, fun y c hf h => ?_, fun _ => hd, Around.frames_deeper e0.frames, .inr ⟨rfl, rfl⟩, fun b z => absurd z (noA b), e0.bs, e0.bsz, fun b _ _ => noA b, fun b z => absurd z (noA b), e0.funs, e0.frf⟩,
    rfl, e0.bare, Un.kept hk, ⟨_, hns, fun i y v h1 h2 h3 => ?_⟩, fun y c h => ?_, e0.hok.fresh (Nat.le_refl _), fun y c h => ?_, fun p hp => absurd (show p ∈ ([] : List (Addr × Obj)) from hp) (by simp), e0.hok.kept hk, ?_⟩
  · exact (cl y c h1).1.trans (cl z c h2).1.symm
  · have hy : scope.names.lookup y = some .cell ∨ scope.names.lookup y = some .free := hy
    rcases hy with hy | hy
    · exact absurd rfl (S.nocell _ (PySem.mem_of_lookup hy))
    · have e := S.free1 _ (PySem.mem_of_lookup hy) rfl
      have e : y = ("__class__" : Str) := e
      subst e
      exact ⟨cc, hcl⟩
  · have e := (cl y c h).1
    subst e
    have hf' : (!((("__class__" : Str)) == ("__class__" : Str))) = true := hf
    simp at hf'
  · have hi : i < vs.length := by
      unfold L2.start at h2
      by_cases hi : i < vs.length
      · exact hi
      · rw [List.getElem?_append_right (by simpa using hi)] at h2
        rw [List.getElem?_replicate] at h2
        split at h2 <;> cases h2
    have ha : vs[i]? = some v := by
      unfold L2.start at h2
      rw [List.getElem?_append_left (by simpa using hi), List.getElem?_map] at h2
      cases e : vs[i]? with
      | none => rw [e] at h2; cases h2
      | some a => rw [e] at h2; cases h2; rfl
    obtain ⟨u, hu, rv⟩ := r.get ha
    have hp : ps[i]? = some y := by
      rw [← S.pre, List.getElem?_take_of_lt (by omega)]; exact h1
    have ndP : ps.Nodup := by rw [← S.pre]; exact S.nd.sublist (List.take_sublist _ _)
    refine ⟨u, rv, .inl ⟨S.par y (List.mem_of_getElem? hp), ?_⟩⟩
    refine lookup_rev (List.mem_of_getElem? (i := i) ?_) ?_
    · rw [List.getElem?_zip_eq_some]
      exact ⟨hp, hu⟩
    · have hz : (ps.zip us).map (·.1) = ps := List.map_fst_zip (Nat.le_of_eq (by rw [← hl]; exact r.length))
      rw [hz]
      exact ndP
  · obtain ⟨rfl, rfl⟩ := cl y c h
    exact ⟨some cv, oc, hk _ _ hb2.1, hc2⟩
  · obtain ⟨rfl, rfl⟩ := cl y c h
    exact hb2.2
  · unfold L2.start
    show _ = N.length
    rw [List.length_append, List.length_map, List.length_replicate]
    omega

/-- a def whose first statement is super().__init__(text), of an own exception class -/
theorem fn_ofS {CX : CXT} {P : Program} {w : World} {K : PySem.W.Frag} {mg : Str → Option Value} {base : Heap} {k : Nat} {f cc cda C : Addr} {name qual sn : Str} {params : Arguments} {rest : List Stmt} {scope : Scope} {dV kV doc pm ct : Value} {an : Option Addr}
    {p0 p1 p2 p3 p4 p5 : Pos} {mz : Str} {jz : Nat} {ar : Arg} {pl : Addr → Sem Bool} {N ps : List Str} {sp : Sp}
    (T : SupC K P C f cc cda (ksFn name qual params (.Expr (.Call (.Attribute (.Call (.Name "super" p0) [] [] p1) "__init__" p2) [.Constant (.str mz) jz p3] [] p4) p5 :: rest) scope dV kV doc pm an (.ref cda) ct cc))
    (hcd : PySem.W.codeIn K (.ref cda) qual = true) (S : SScope N (sn :: ps) scope) (hp : (params.posonlyargs ++ params.args).head? = some ar) (har : ar.arg = sn)
    (hsup : mg "super" = none) (hboot : bootBuiltins "super" = some (.type "super")) (hks : scope.names.lookup ("super" : Str) = some .globalImplicit)
    (hcall : ∀ L : Addr, eval (.Call (.Attribute (.Call (.Name "super" p0) [] [] p1) "__init__" p2) [.Constant (.str mz) jz p3] [] p4) (ksEnv qual scope L f (.ref cda) cc) = (do
      let ov ← attributeBase (.Call (.Name "super" p0) [] [] p1) "__init__" (ksEnv qual scope L f (.ref cda) cc) (eval (.Call (.Name "super" p0) [] [] p1) (ksEnv qual scope L f (.ref cda) cc))
      standAt p2.atName
      let (fz, first) ← holding [ov] (getMethod ov "__init__" (pl L))
      callWith p4 fz first (backTo p4 (starEach [.Constant (.str mz) jz p3] (ksEnv qual scope L f (.ref cda) cc))) []))
    (hi : ∀ L : Addr, interactive (ksEnv qual scope L f (.ref cda) cc) = false)
    (hsw : ∀ L : Addr, swapsWith (.Call (.Attribute (.Call (.Name "super" p0) [] [] p1) "__init__" p2) [.Constant (.str mz) jz p3] [] p4) none p5.line (ksEnv qual scope L f (.ref cda) cc) = pure false)
    (len : ∀ vs H Q E, sp vs H Q E → vs.length = (sn :: ps).length) (hself : ∀ vs H Q E, sp vs H Q E → ∃ a vs', vs = V.ref a :: vs' ∧ H a = some (exo a C none))
    (hbody : ∀ (A : Around) (outer : List Env) (s : Shared) (H : Hp) (vs : List V) (Q : VK) (E : XK), Room k (A.deeper (ksEnv qual scope s.heap.objs.size f (.ref cda) cc)) → sp vs H Q E →
      ∃ t, PSs (cxS CX P w K mg base N qual scope f cc (.ref cda) A outer s H E) rest t ∧ t { nx := fun _ H' => Q .non H', rt := Q } (L2.start N vs) H) :
    FnOk P w K mg base CX (k + 1) f (ksFn name qual params (.Expr (.Call (.Attribute (.Call (.Name "super" p0) [] [] p1) "__init__" p2) [.Constant (.str mz) jz p3] [] p4) p5 :: rest) scope dV kV doc pm an (.ref cda) ct cc) (sn :: ps) sp := by
  refine ⟨len, fun A outer s H args us vs Q E hr e0 hb r hsp => ?_⟩
  have hl := len _ _ _ _ hsp
  obtain ⟨a, vs', ev, hex⟩ := hself _ _ _ _ hsp
  have KX : K.In s.heap := e0.mod.kin.keeps fun b o e => (e0.bs b o e).1
  have lim : s.heap.NoLimit := e0.mod.nolimit.keeps fun b o e => (e0.bs b o e).1
  obtain ⟨oc, od, osl, hf⟩ := T.fn
  obtain ⟨cl, cld, csl, hcell⟩ := T.cell
  have hloc : ∀ y ∈ (sn :: ps).zip us, scope.names.lookup y.1 = some .local := fun ⟨n, v⟩ hy => S.par n (List.of_mem_zip hy).1
  refine PySem.ks_codeAny_call_defAt (binds := (sn :: ps).zip us) hr.depth (KX _ _ hf) rfl lim (PySem.W.codeRec_of KX hcd) rfl hb S.nocell hloc (fun h1 hns hk => ?_) S.co S.gen S.kind
  have I : Inv (cxS CX P w K mg base N qual scope f cc (.ref cda) A outer s H E) [] (L2.start N vs) H { s with heap := h1, toks := s.toks + ((sn :: ps).zip us).length } := inv_startS S hr.hd e0 hl r ⟨_, _, hcell, rfl⟩ hns hk
  obtain ⟨t, ht, hq⟩ := hbody A outer s H vs Q E (hr.deeper _) hsp
  refine PySem.ks_wpAt_execs_cons ?_
  subst ev
  obtain ⟨t1, ho⟩ := exo_at I.hok hex
  have hus : ∃ us', us = Value.ref a :: us' := by
    cases r with
    | @cons _ u _ us' ra rr =>
      obtain rfl : u = Value.ref a := ra
      exact ⟨us', rfl⟩
  obtain ⟨us', rfl⟩ := hus
  have ndP : (sn :: ps).Nodup := by rw [← S.pre]; exact S.nd.sublist (List.take_sublist _ _)
  have hv : (fun x => List.lookup x ((sn :: ps).zip (Value.ref a :: us')).reverse) ar.arg = some (Value.ref a) := by
    rw [har]
    refine lookup_rev (by simp [List.zip_cons_cons]) ?_
    have hz : ((sn :: ps).zip (Value.ref a :: us')).map (·.1) = sn :: ps := List.map_fst_zip (Nat.le_of_eq (by rw [← hl]; exact r.length))
    rw [hz]
    exact ndP
  obtain ⟨mb, hB1, hB2⟩ := e0.mod.blt
  obtain ⟨hh, g, d, tk, os⟩ := s
  refine super_raw (mb := mb) T I.kIn (e0.mod.glob.keeps I.bk) hsup (hB1.keeps I.bk) ((hB2 _ (by decide)).trans hboot) hp hns hv ho hks S.fr (by rw [har]; exact S.par _ List.mem_cons_self) S.kind (hcall _) (hi _) (hsw _) fun h' tk' t2 kp hx' => ?_
  have J := I.write (t' := tk') (x := a) (e := a) (o := exo a C none) (by rw [hex]; exact True.intro) (.inl rfl) kp ⟨_, hx'⟩ (exo_ok hx')
  have eu : upd H a (exo a C none) = H := by
    funext b
    by_cases hb : b = a
    · rw [hb, upd_same, hex]
    · rw [upd_ne hb]
  rw [eu] at J
  refine PySem.wpAt_of_wpAny ?_
  refine wpAny_mono (ht.run [] _ (L2.start N (V.ref a :: vs')) H _ J hq) (fun fl s' hs => ?_) fun e s' hs => hs
  have fin : ∀ {σ' : L2.St} {H' : Hp} {v : V} {u : Value}, Inv (cxS CX P w K mg base N qual scope f cc (.ref cda) A outer ⟨hh, g, d, tk, os⟩ H E) [] σ' H' s' → RelV v u → Q v H' → CE outer P w H ⟨hh, g, d, tk, os⟩ Q u s' :=
    fun {σ' H' v u} J rv q => ⟨v, H', J.os, J.bare, J.base, J.hok, rv, q⟩
  cases fl with
  | ret u =>
    obtain ⟨v, σ', H', J, rv, q⟩ := hs
    exact fin J rv q
  | next =>
    obtain ⟨σ', H', J, q⟩ := hs
    exact fin (v := V.non) (u := Value.none) J rfl q
  | brk =>
    obtain ⟨_, _, _, q⟩ := hs
    exact False.elim q
  | cont =>
    obtain ⟨_, _, _, q⟩ := hs
    exact False.elim q
end G1

set_option Elab.async false
set_option linter.all false
set_option maxRecDepth 100000
set_option maxHeartbeats 8000000
/-! set(t) of a tuple of keys of any kind; len(set(t)) of a tuple of texts -/
namespace G2
open PySem PySem.Spec PyProof.Rows
section
variable {K : Type} [DecidableEq K]
/-- the keys in the order in which they are first met -/
def met (val : Nat → K) : Nat → List K
  | 0 => []
  | i + 1 => if val i ∈ met val i then met val i else met val i ++ [val i]
theorem met_succ (val : Nat → K) (i : Nat) : met val (i + 1) = if val i ∈ met val i then met val i else met val i ++ [val i] := rfl
theorem met_len (val : Nat → K) : ∀ i, (met val i).length ≤ i
  | 0 => Nat.le_refl 0
  | i + 1 => by
    have ih := met_len val i
    rw [met_succ]
    split
    · omega
    · rw [List.length_append, List.length_singleton]; omega
theorem met_mem (val : Nat → K) (k : K) : ∀ i, k ∈ met val i ↔ ∃ j, j < i ∧ val j = k
  | 0 => by simp [met]
  | i + 1 => by
    have ih := met_mem val k i
    have e : k ∈ met val (i + 1) ↔ k ∈ met val i ∨ k = val i := by
      rw [met_succ]
      split
      · rename_i h
        exact ⟨.inl, fun z => z.elim id fun z => by rw [z]; exact h⟩
      · simp
    rw [e, ih]
    constructor
    · rintro (⟨j, hj, hk⟩ | rfl)
      · exact ⟨j, by omega, hk⟩
      · exact ⟨i, by omega, rfl⟩
    · rintro ⟨j, hj, hk⟩
      by_cases q : j = i
      · subst q; exact .inr hk.symm
      · exact .inl ⟨j, by omega, hk⟩
/-- as many as there are exactly if no two are alike -/
theorem met_full (val : Nat → K) : ∀ n, (met val n).length = n ↔ ∀ i j, i < n → j < n → val i = val j → i = j
  | 0 => by simp [met]
  | n + 1 => by
    have ih := met_full val n
    have hl := met_len val n
    rw [met_succ]
    split
    · rename_i h
      obtain ⟨j, hj, hk⟩ := (met_mem val (val n) n).mp h
      constructor
      · intro e; omega
      · intro q
        have := q j n (by omega) (by omega) hk
        omega
    · rename_i h
      rw [List.length_append, List.length_singleton]
      constructor
      · intro e i j hi hj hk
        have q := ih.mp (by omega)
        by_cases a : i = n
        · by_cases b : j = n
          · omega
          · exact absurd ((met_mem val (val n) n).mpr ⟨j, by omega, by rw [← hk, a]⟩) h
        · by_cases b : j = n
          · exact absurd ((met_mem val (val n) n).mpr ⟨i, by omega, by rw [hk, b]⟩) h
          · exact q i j (by omega) (by omega) hk
      · intro q
        have := ih.mpr fun i j hi hj hk => q i j (by omega) (by omega) hk
        omega
end
section
variable {K : Type} [DecidableEq K] [BEq K] [LawfulBEq K] {prog : Program} {w : World} {A : Around} {R : Result → Shared → Prop} {I : Addr} {fp wr : List Addr} {G : Array GenState → Array GenState → Prop} {n : Nat} {P : Nat → Value → Prop} {St : Nat → Shared → Prop}
theorem grow (knd : KeyKind prog w K) (W : WalksS prog w A.in1 I fp wr G n P St) (S : Addr) (hSf : S ∉ fp) (val : Nat → K) (hval : ∀ i v, P i v → knd.is (val i) v = true ∧ v.scannable = true) (hb : n + 1 < scanBound) :
    ∀ (k i : Nat) (s : Shared), n - i = k → i ≤ n → St i s → s.heap.SetOf knd S (fun q => decide (q ∈ met val i)) (met val i).length →
      (∀ s', Moved (S :: wr) G s s' → s'.heap.SetOf knd S (fun q => decide (q ∈ met val n)) (met val n).length → R (.ok (.ret .none)) s') →
      codeAny (model prog w) A (.builtin "set.update.loop" ⟨[.ref S, .ref I], []⟩) R s := by
  have nw : S ∉ wr := fun h => hSf (W.sub _ h)
  have sub : ∀ b ∈ wr, b ∈ S :: wr := fun b hb => List.mem_cons_of_mem _ hb
  have move : ∀ {i : Nat} {s s' : Shared}, s.heap.SetOf knd S (fun q => decide (q ∈ met val i)) (met val i).length → Moved wr G s s' → s'.heap.SetOf knd S (fun q => decide (q ∈ met val i)) (met val i).length := fun {i s s'} z m => by
    obtain ⟨o, es, ep, tb, ho, r⟩ := z
    exact ⟨o, es, ep, tb, m.heap S _ nw ho, r⟩
  intro k
  induction k with
  | zero =>
    intro i s hk hi hst hS hR
    obtain rfl : i = n := by omega
    refine codeAny_builtin F.entry_set_update_loop ?_
    rw [Around.under_plainId F.plain_set_update_loop _]
    show wpAny _ A.in1 (pyNext (.ref I) >>= _) _ _ s
    exact wpAny_bind (W.done s _ _ hst fun s' m => wpAny_pure (hR s' (m.mono sub) (move hS m)))
  | succ k ih =>
    intro i s hk hi hst hS hR
    have lt : i < n := by omega
    refine codeAny_builtin F.entry_set_update_loop ?_
    rw [Around.under_plainId F.plain_set_update_loop _]
    show wpAny _ A.in1 (pyNext (.ref I) >>= _) _ _ s
    refine wpAny_bind (W.item i s _ _ lt hst fun v s' hP hst' m => ?_)
    obtain ⟨hv, hsc⟩ := hval i v hP
    have hS1 := move hS m
    show wpAny _ A.in1 (holding [v] (setAdd S v) >>= _) _ _ s'
    refine wpAny_bind (wpAny_holding ?_)
    unfold setAdd
    refine wpAny_holding (wpAny_bind (knd.pyHash hv ?_))
    refine wpAny_setAddHashed_of (knd := knd) (s := { s' with toks := s'.toks + 1 }) hv hsc hS1 (by have := met_len val i; omega) fun h' sb S2 => ?_
    have S3 : h'.SetOf knd S (fun q => decide (q ∈ met val (i + 1))) (met val (i + 1)).length := by
      refine SetOf_congr S2 (fun q => ?_) ?_
      · show (decide (q ∈ met val i) || decide (q = val i)) = decide (q ∈ met val (i + 1))
        rw [← Bool.decide_or]
        refine decide_eq_decide.mpr ?_
        rw [met_succ]
        split
        · rename_i z
          exact ⟨fun y => y.elim id fun y => by rw [y]; exact z, .inl⟩
        · simp
      · rw [met_succ]
        by_cases z : val i ∈ met val i
        · rw [if_pos z, if_pos (decide_eq_true z)]
        · rw [if_neg z, if_neg (by rw [decide_eq_false z]; exact Bool.false_ne_true), List.length_append, List.length_singleton]
    refine wpAny_pure ⟨plainId_quiet F.plain_set_update_loop _, ih (i + 1) _ (by omega) lt (W.frame _ s' _ _ hst' (Nat.le_succ _) fun b hb o e => ?_) S3 fun s'' m2 S4 => ?_⟩
    · rw [sb.2 b (fun h => hSf (by rw [← h]; exact hb))]; exact e
    · refine hR s'' (Moved.trans W.gtrans ((m.mono sub).then_heap (Nat.le_succ _) fun b o hb e => ?_) m2) S4
      rw [sb.2 b (fun h => hb (by rw [h]; exact List.mem_cons_self))]; exact e
end

abbrev new0 (led : Bool) : Obj := { cls := .type "set", dict := none, data := .set #[] 0 (.fresh 0 0 led) }
section
variable {K : Type} [DecidableEq K] [BEq K] [LawfulBEq K] {prog : Program} {w : World} {A : Around} {E : Value → Shared → Prop} {s : Shared}
/-- what stands behind: the set of the met keys, at the first free place -/
def Made (knd : KeyKind prog w K) (s : Shared) (val : Nat → K) (n : Nat) (h' : Heap) : Prop :=
  h'.SetOf knd s.heap.objs.size (fun q => decide (q ∈ met val n)) (met val n).length ∧ ∀ b o, b < s.heap.objs.size → s.heap.get? b = some o → h'.get? b = some o
/-- set.__init__ on the new set and the tuple -/
theorem init_tuple (knd : KeyKind prog w K) {l : Addr} {items : Array Value} {val : Nat → K} {led : Bool} {R : Result → Shared → Prop}
    (hh : A.handled = none) (hl : s.heap.IsTuple l items) (hv : ∀ i v, items[i]? = some v → knd.is (val i) v = true ∧ v.scannable = true) (hb : items.size + 1 < scanBound)
    (hR : ∀ h' tk, Made knd s val items.size h' → R (.ok (.ret .none)) { s with heap := h', toks := tk }) :
    codeAny (model prog w) A (.call (.builtin "set.__init__") ⟨[.ref s.heap.objs.size, .ref l], []⟩) R { s with heap := s.heap.push (new0 led) } := by
  have hS : (s.heap.push (new0 led)).get? s.heap.objs.size = some (new0 led) := Heap.get?_push_size _ rfl
  have hT : Shared.TypeIs { s with heap := s.heap.push (new0 led) } (.ref s.heap.objs.size) "set" := ⟨_, hS, rfl⟩
  refine codeAny_call_builtin F.called_set.init.plain F.entry_set_init (check_set_init_1 hT ?_)
  have hlS : l < s.heap.objs.size := by obtain ⟨_, q, _⟩ := hl; exact Heap.lt_size q
  have hT1 : (s.heap.push (new0 led)).IsTuple l items := hl.push _
  obtain ⟨⟨ocls, odict, odata, oslots⟩, hol', hcl, nl, hdl⟩ := id hT1
  simp only at hcl hdl
  subst hcl; subst hdl
  have q1 := F.sub_tuple_set
  have q2 := F.sub_tuple_frozenset
  have q3 : (Value.type "tuple" == Value.type "dict") = false := by decide
  unfold Builtin.«set.__init__» noKeywords Builtin.Frozenset.updateFrom
  generalize hPI : pyIter = PI
  wp_walk
  subst hPI
  refine wpAny_pyIter_tuple hT1 (wpAny_bind (wpAny_runValue ?_))
  have hh3 : A.in1.in1.handled = none := by simp [hh]
  have ne1 : l ≠ (s.heap.push (new0 led)).objs.size := by
    rw [Heap.size_push]; exact Nat.ne_of_lt (Nat.lt_succ_of_lt hlS)
  have ne2 : s.heap.objs.size ∉ [(s.heap.push (new0 led)).objs.size, l] := by
    rw [Heap.size_push]
    intro z
    rcases List.mem_cons.mp z with z | z
    · exact Nat.ne_of_lt (Nat.lt_succ_self _) z
    · exact Nat.ne_of_gt hlS (List.mem_singleton.mp z)
  refine grow knd ((Walks.tuple hh3 _ l ne1 items).toS) s.heap.objs.size ne2 val hv hb (items.size - 0) 0 _ (by omega) (Nat.zero_le _) ?hst ?hz0 ?hz1
  case hst => exact ⟨⟨_, Heap.get?_push_size _ rfl, rfl, rfl⟩, Heap.IsTuple.push hT1 _⟩
  case hz0 => exact SetOf_congr ((setObjOf_fresh (knd := knd) led).setOf (Heap.get?_push_of_some _ hS) (by unfold scanBound; omega)) (fun _ => rfl) rfl
  case hz1 =>
    rintro ⟨h', g', d', tk', os'⟩ m z
    obtain rfl : g' = s.gens := m.gens
    obtain rfl : d' = s.drawn := m.drawn
    obtain rfl : os' = s.os := m.os
    show wpAny _ _ _ _ _ _
    refine wpAny_pure ?_
    show wpAny _ _ (ret Value.none) _ _ _
    refine wpAny_pure (hR h' tk' ⟨z, fun b o hb e => m.heap b o ?_ (Heap.get?_push_of_some _ (Heap.get?_push_of_some _ e))⟩)
    rw [Heap.size_push]
    intro y
    rcases List.mem_cons.mp y with y | y
    · exact Nat.ne_of_lt hb y
    · exact Nat.ne_of_lt (Nat.lt_succ_of_lt hb) (List.mem_singleton.mp y)
theorem set_tuple (knd : KeyKind prog w K) {l : Addr} {items : Array Value} {val : Nat → K} {Q : Value → Shared → Prop}
    (hh : A.handled = none) (hl : s.heap.IsTuple l items) (hv : ∀ i v, items[i]? = some v → knd.is (val i) v = true ∧ v.scannable = true) (hb : items.size + 1 < scanBound)
    (hq : ∀ h' tk, Made knd s val items.size h' → Q (.ref s.heap.objs.size) { s with heap := h', toks := tk }) :
    wpAny (model prog w) A (call (.type "set") [.ref l]) Q E s := by
  obtain ⟨c, tl, hmro⟩ := F.called_set.mro
  have hmade := F.called_set.made
  have hsub := F.called_set.sub
  refine wpAny_call (codeAny_of_tree (wpAny_pure ⟨Code.quiet_builtin _ (by decide +kernel), codeAny_builtin F.entry_type_call ?_⟩))
  rw [Around.under_plain (weight_type_call_type "set" [.ref l] []) rfl]
  have h1 := F.called_set.notType
  have h2 := F.called_set.canCreate
  have h3 := F.typeCall_set_1 (.ref l)
  repeat (any_goals (first | assumption | wp_step))
  refine codeAny_mono (code_set_new_1 (.ref l) (E := E) (Q₁ := fun obj s1 => ∃ led : Bool, obj = .ref s.heap.objs.size ∧ s1 = { s with heap := s.heap.push (new0 led) }) fun led => ⟨led, rfl, rfl⟩) fun r s1 hr => ?_
  cases r with
  | error e => exact hr
  | ok fl =>
    cases fl with
    | ret obj =>
      obtain ⟨led, rfl, rfl⟩ := hr
      have hS : (s.heap.push (new0 led)).get? s.heap.objs.size = some (new0 led) := Heap.get?_push_size _ rfl
      have hT : Shared.TypeIs { s with heap := s.heap.push (new0 led) } (.ref s.heap.objs.size) "set" := ⟨_, hS, rfl⟩
      have h4 := F.called_set.init.lookup
      have h5 := F.called_set.init.bind (.ref s.heap.objs.size)
      repeat (any_goals (first | assumption | wp_step))
      refine codeAny_mono (init_tuple (R := wants (fun r s2 => r = .none ∧ ∃ h' tk, s2 = { s with heap := h', toks := tk } ∧ Made knd s val items.size h') E) knd (by simp [hh]) hl hv hb fun h' tk m => ⟨rfl, h', tk, rfl, m⟩) fun r2 s2 hr2 => ?_
      cases r2 with
      | error e => exact hr2
      | ok fl2 =>
        cases fl2 with
        | ret r =>
          obtain ⟨rfl, h', tk, rfl, m⟩ := hr2
          repeat (any_goals (first | assumption | wp_step))
          exact hq _ _ m
        | _ => exact hr2.elim
    | _ => exact hr.elim
end

end G2
namespace L2
open PySem PySem.Spec PyProof.Rows
/-- len(set(t)), t a tuple of texts -/
def tLenSetT (K : PySem.W.Frag) (ta : TE) : TE := fun σ H Q => ta σ H fun x H1 => ∃ (l : Addr) (xs : List Str), x = .ref l ∧ SqT K H1 l (xs.map V.str) ∧ xs.length ≤ 1000 ∧ Q (.int (G2.met (fun i => xs.getD i Str.empty) xs.length).length) H1
section
variable {X : Cx}
theorem pe_lenSetT {a : Expr} {ta : TE} {p p2 q pos : Pos} (hc : X.calm = true) (hg : Gl X "len") (hm : X.mg "len" = none) (hg2 : Gl X "set") (hm2 : X.mg "set" = none) (ha : PE X a ta)
    (na : starEach [a] X.env = (false, eval a X.env) :: starEach [] X.env := by rfl) : PE X (.Call (.Name "len" p) [.Call (.Name "set" p2) [a] [] q] [] pos) (tLenSetT X.K ta) := by
  refine ⟨fun pins s σ H Q I h => ?_⟩
  refine Call_ (ld_blt I hg hm boot_len ?_)
  refine PyProof.Rows.callWith_builtin1 (PyProof.Rows.args_cons ?_ rfl) rfl rfl
  refine Call_ (ld_blt I hg2 hm2 boot_set ?_)
  refine PyProof.Rows.callWith_type1 (PyProof.Rows.args_cons (thn (ha.run pins s σ H _ I h) fun v s1 ⟨x, H1, I1, r1, q1⟩ => PyProof.Rows.args_nil ?_) na) na rfl
  obtain ⟨l, xs, rfl, hq, hn, q1⟩ := q1
  cases r1
  obtain ⟨its, r, pl, hz⟩ := I1.tuple hq
  have hl : its.toArray.size = xs.length := by rw [List.size_toArray, ← r.length, List.length_map]
  refine G2.set_tuple (strKind X.prog X.w) (val := fun i => xs.getD i Str.empty) (I1.ok.hd hc) pl (fun i v hv => ?_) (by rw [hl]; unfold scanBound; omega) fun h' tk ⟨hS, hk⟩ => ?_
  · have hv' : its[i]? = some v := by rw [← Array.getElem?_toList] at hv; exact hv
    have hi : i < xs.length := by
      have := (List.getElem?_eq_some_iff.mp hv').1
      rw [← r.length, List.length_map] at this
      exact this
    obtain ⟨u, hu, ru⟩ := r.get (i := i) (x := .str xs[i]) (by rw [List.getElem?_map, List.getElem?_eq_getElem hi]; rfl)
    rw [hv'] at hu
    obtain rfl := Option.some.inj hu
    obtain ⟨t, rfl⟩ := ru
    refine ⟨?_, rfl⟩
    show (strKind X.prog X.w).is (xs.getD i Str.empty) (.str xs[i] t) = true
    rw [List.getD_eq_getElem?_getD, List.getElem?_eq_getElem hi]
    exact strKind_is _ _ _ _
  · refine PyProof.Rows.args_nil ?_
    rw [hl] at hS
    obtain ⟨o, es, ep, t, ho, hex, hd, _, _, _, hf, hz2⟩ := hS
    have I2 : Inv X pins σ H1 { s1 with heap := h', toks := tk } := I1.kept fun b o e => hk b o (Heap.lt_size e) e
    have hle := G2.met_len (fun i => xs.getD i Str.empty) xs.length
    exact call_len_set ho hex hd hf (by rw [hz2]; omega) ⟨.int ((G2.met (fun i => xs.getD i Str.empty) xs.length).length : Nat), H1, I2.tok _, ⟨_, by rw [hz2]⟩, q1⟩
end
end L2

set_option Elab.async false
set_option linter.all false
set_option maxRecDepth 100000
set_option maxHeartbeats 4000000
/-! data (texts, tuples, anything else) and how they lie in the heap; what the checks say of them -/
namespace SF
open PySem PySem.Spec PyProof.Rows L2
inductive D where
  | s (x : Str)
  | t (ds : List D)
  | o
/-- equal to itself -/
def EqS (v : V) : Prop := flatB v = true ∨ ∃ a, v = .ref a
/-- a value that is neither a text nor a tuple -/
def Oth (K : PySem.W.Frag) (H : Hp) (v : V) : Prop := ∃ T : String, TyX K H v (.type T) ∧ PySem.W.kitOne K (.type T) (.type "str") = some false ∧ PySem.W.kitOne K (.type T) (.type "tuple") = some false ∧ EqS v
mutual
def Rep (K : PySem.W.Frag) (H : Hp) : D → V → Prop
  | .s x, v => v = .str x ∧ x.length ≤ 1000
  | .t ds, v => ∃ (p : Addr) (vs : List V), v = .ref p ∧ SqT K H p vs ∧ Reps K H ds vs
  | .o, v => Oth K H v
def Reps (K : PySem.W.Frag) (H : Hp) : List D → List V → Prop
  | [], vs => vs = []
  | d :: ds, vs => ∃ v r, vs = v :: r ∧ Rep K H d v ∧ Reps K H ds r
end
section
variable {K : PySem.W.Frag} {H H' : Hp}
theorem same_t {a : Addr} {xs : List V} (e : Same H H') (h : SqT K H a xs) : SqT K H' a xs := by
  rcases h with (h | ⟨o, h⟩) | h
  · exact .inl (.inl (e _ _ h))
  · exact .inl (.inr ⟨o, e _ _ h⟩)
  · exact .inr h
theorem same_ty {v : V} {t : Value} (e : Same H H') (h : TyX K H v t) : TyX K H' v t := by
  cases h with
  | base b =>
    cases b with
    | non => exact .base .non
    | bl y => exact .base (.bl y)
    | int i => exact .base (.int i)
    | str y => exact .base (.str y)
    | flt y => exact .base (.flt y)
    | lst q => exact .base (.lst (e _ _ q))
    | frz q => exact .base (.frz (e _ _ q))
    | tup q => exact .base (.tup (e _ _ q))
    | dK q => exact .base (.dK (e _ _ q))
    | dT q => exact .base (.dT (e _ _ q))
    | ins q a b c d f => exact .base (.ins (e _ _ q) a b c d f)
  | byt y => exact .byt y
  | set q => exact .set (e _ _ q)
  | kList q c => exact .kList q c
  | kTuple q c => exact .kTuple q c
  | kDict q c => exact .kDict q c
  | fTuple q => exact .fTuple (e _ _ q)
  | fDict q => exact .fDict (e _ _ q)
mutual
theorem Rep.same (e : Same H H') : ∀ {d : D} {v : V}, Rep K H d v → Rep K H' d v
  | .s x, v, h => by
    unfold Rep at h ⊢
    exact h
  | .t ds, v, h => by
    unfold Rep at h ⊢
    obtain ⟨p, vs, e1, e2, e3⟩ := h
    exact ⟨p, vs, e1, same_t e e2, Reps.same e e3⟩
  | .o, v, h => by
    unfold Rep at h ⊢
    obtain ⟨T, t, z⟩ := h
    exact ⟨T, same_ty e t, z⟩
theorem Reps.same (e : Same H H') : ∀ {ds : List D} {vs : List V}, Reps K H ds vs → Reps K H' ds vs
  | [], vs, h => by
    unfold Reps at h ⊢
    exact h
  | d :: ds, vs, h => by
    unfold Reps at h ⊢
    obtain ⟨v, r, e1, e2, e3⟩ := h
    exact ⟨v, r, e1, Rep.same e e2, Reps.same e e3⟩
end
theorem rep_s {x : Str} {v : V} : Rep K H (.s x) v ↔ v = .str x ∧ x.length ≤ 1000 := by unfold Rep; exact Iff.rfl
theorem rep_t {ds : List D} {v : V} : Rep K H (.t ds) v ↔ ∃ (p : Addr) (vs : List V), v = .ref p ∧ SqT K H p vs ∧ Reps K H ds vs := by
  rw [Rep]
theorem rep_o {v : V} : Rep K H .o v ↔ Oth K H v := by unfold Rep; exact Iff.rfl
theorem rep_self {d : D} {v : V} (h : Rep K H d v) : EqS v := by
  cases d with
  | s x =>
    rw [(rep_s.mp h).1]
    exact .inl rfl
  | t ds =>
    obtain ⟨p, vs, e, _⟩ := rep_t.mp h
    exact .inr ⟨p, e⟩
  | o =>
    obtain ⟨T, _, _, _, e⟩ := rep_o.mp h
    exact e
theorem reps_nil {vs : List V} : Reps K H [] vs ↔ vs = [] := by unfold Reps; exact Iff.rfl
theorem reps_cons {d : D} {ds : List D} {vs : List V} : Reps K H (d :: ds) vs ↔ ∃ v r, vs = v :: r ∧ Rep K H d v ∧ Reps K H ds r := by rw [Reps]
theorem reps_len : ∀ {ds : List D} {vs : List V}, Reps K H ds vs → ds.length = vs.length
  | [], vs, h => by rw [reps_nil.mp h]; rfl
  | d :: ds, vs, h => by
    obtain ⟨v, r, rfl, _, h2⟩ := reps_cons.mp h
    rw [List.length_cons, List.length_cons, reps_len h2]
theorem reps_at : ∀ {ds : List D} {vs : List V} {i : Nat} {v : V}, Reps K H ds vs → vs[i]? = some v → ∃ d, ds[i]? = some d ∧ Rep K H d v
  | [], vs, i, v, h, e => by rw [reps_nil.mp h] at e; simp at e
  | d :: ds, vs, 0, v, h, e => by
    obtain ⟨w, r, rfl, h1, h2⟩ := reps_cons.mp h
    have : w = v := by simpa using e
    subst this
    exact ⟨d, rfl, h1⟩
  | d :: ds, vs, i + 1, v, h, e => by
    obtain ⟨w, r, rfl, h1, h2⟩ := reps_cons.mp h
    obtain ⟨d', a, b⟩ := reps_at (i := i) (v := v) h2 (by simpa using e)
    exact ⟨d', by simpa using a, b⟩
theorem ty_t {p : Addr} {vs : List V} (h : SqT K H p vs) : TyX K H (.ref p) (.type "tuple") := by
  rcases h with (h | ⟨o, h⟩) | ⟨o, its, n, h, c, _⟩
  · exact .base (.tup h)
  · exact .fTuple h
  · exact .kTuple h c
theorem ty_s {x : Str} : TyX K H (.str x) (.type "str") := .base (.str x)
/-- isinstance of a value of a built-in type -/
theorem isi_go {v : V} {T S : String} {b : Bool} {Q : VK} (h : TyX K H v (.type T)) (k : PySem.W.kitOne K (.type T) (.type S) = some b) (q : Q (.bl b) H) : rIsi K [v, .ty S] H Q := ⟨v, .ty S, _, _, b, rfl, .ty S, h, k, q⟩
theorem k_ss : PySem.W.kitOne K (.type "str") (.type "str") = some true := kit_ty (by decide +kernel)
theorem k_st : PySem.W.kitOne K (.type "str") (.type "tuple") = some false := kit_ty (by decide +kernel)
theorem k_sd : PySem.W.kitOne K (.type "str") (.type "dict") = some false := kit_ty (by decide +kernel)
theorem k_sl : PySem.W.kitOne K (.type "str") (.type "list") = some false := kit_ty (by decide +kernel)
theorem k_ts : PySem.W.kitOne K (.type "tuple") (.type "str") = some false := kit_ty (by decide +kernel)
theorem k_tt : PySem.W.kitOne K (.type "tuple") (.type "tuple") = some true := kit_ty (by decide +kernel)
theorem k_dd : PySem.W.kitOne K (.type "dict") (.type "dict") = some true := kit_ty (by decide +kernel)
end
/-! ### what is a name -/
def nameS (x : Str) : Bool := decide (x.length ≤ 8) && (Txt.isascii x && (Txt.isalpha x && Txt.islower x))
def nameD : D → Bool
  | .s x => nameS x
  | _ => false
def isT : D → Bool
  | .t _ => true
  | _ => false
def isS : D → Bool
  | .s _ => true
  | _ => false
section
variable {K : PySem.W.Frag} {H : Hp} {Q : VK}
theorem isi_str {d : D} {v : V} (r : Rep K H d v) (q : Q (.bl (isS d)) H) : rIsi K [v, .ty "str"] H Q := by
  cases d with
  | s x =>
    obtain ⟨rfl, _⟩ := rep_s.mp r
    exact isi_go ty_s k_ss q
  | t ds =>
    obtain ⟨p, vs, rfl, h, _⟩ := rep_t.mp r
    exact isi_go (ty_t h) k_ts q
  | o =>
    obtain ⟨T, t, k1, k2⟩ := rep_o.mp r
    exact isi_go t k1 q
theorem isi_tup {d : D} {v : V} (r : Rep K H d v) (q : Q (.bl (isT d)) H) : rIsi K [v, .ty "tuple"] H Q := by
  cases d with
  | s x =>
    obtain ⟨rfl, _⟩ := rep_s.mp r
    exact isi_go ty_s k_st q
  | t ds =>
    obtain ⟨p, vs, rfl, h, _⟩ := rep_t.mp r
    exact isi_go (ty_t h) k_tt q
  | o =>
    obtain ⟨T, t, k1, k2⟩ := rep_o.mp r
    exact isi_go t k2.1 q
end
/-- the texts among the data -/
def strOf : D → Str
  | .s x => x
  | _ => Str.empty
def namesD (lo hi : Nat) : D → Bool
  | .t ds => decide (lo ≤ ds.length) && (decide (ds.length ≤ hi) && (ds.all nameD && decide ((ds.map strOf).Nodup)))
  | _ => false
theorem names_vs {K : PySem.W.Frag} {H : Hp} : ∀ {ds : List D} {vs : List V}, Reps K H ds vs → ds.all nameD = true → vs = (ds.map strOf).map V.str
  | [], vs, h, _ => reps_nil.mp h
  | d :: ds, vs, h, e => by
    obtain ⟨v, r, rfl, h1, h2⟩ := reps_cons.mp h
    rw [List.all_cons, Bool.and_eq_true] at e
    cases d with
    | s x =>
      obtain ⟨rfl, _⟩ := rep_s.mp h1
      rw [names_vs h2 e.2]
      rfl
    | t _ => cases e.1
    | o => cases e.1
theorem met_nodup (xs : List Str) : decide ((G2.met (fun i => xs.getD i Str.empty) xs.length).length = xs.length) = decide xs.Nodup := by
  refine decide_eq_decide.mpr ?_
  rw [G2.met_full, List.Nodup, List.pairwise_iff_getElem]
  have g : ∀ (i : Nat) (hi : i < xs.length), xs.getD i Str.empty = xs[i] := fun i hi => by rw [List.getD_eq_getElem?_getD, List.getElem?_eq_getElem hi]; rfl
  constructor
  · intro h i j hi hj hij e
    have := h i j hi hj (by rw [g i hi, g j hj, e])
    omega
  · intro h i j hi hj e
    rw [g i hi, g j hj] at e
    rcases Nat.lt_trichotomy i j with c | c | c
    · exact absurd e (h i j hi hj c)
    · exact c
    · exact absurd e.symm (h j i hj hi c)
end SF

set_option Elab.async false
set_option linter.all false
set_option maxRecDepth 100000
set_option maxHeartbeats 4000000
/-! steps of a reading, one at a time -/
namespace RD
open PySem PySem.Spec PyProof.Rows L2 G0
section
variable {σ : L2.St} {H : Hp} {Q : VK} {v : V} {ta tb te : TE} {t : TA} {c c1 c2 : TT} {t1 t2 : TS} {D : Ends} {nx : L2.St → Hp → Prop} {rt : VK} {bk ct : L2.St → Hp → Prop} {K : PySem.W.Frag} {QB : Bool → Hp → Prop} {QA : List V → Hp → Prop} {A B : Prop}
theorem seq (h : t1 ⟨t2 D, D.rt, D.bk, D.ct⟩ σ H) : tSeq t1 t2 D σ H := h
theorem next (h : nx σ H) : tNext ⟨nx, rt, bk, ct⟩ σ H := h
theorem ifS (h : c σ H fun b H1 => if b = true then t1 D σ H1 else t2 D σ H1) : tIfS c t1 t2 D σ H := h
theorem ret (h : te σ H rt) : tRet te ⟨nx, rt, bk, ct⟩ σ H := h
theorem retN (h : rt .non H) : tRetN ⟨nx, rt, bk, ct⟩ σ H := h
theorem drop (h : te σ H fun _ H1 => nx σ H1) : tDrop te ⟨nx, rt, bk, ct⟩ σ H := h
theorem asg {g : TG} (h : te σ H fun x H1 => g x σ H1 nx) : tAsg te g ⟨nx, rt, bk, ct⟩ σ H := h
theorem gname {i : Nat} {QS : L2.St → Hp → Prop} (h : QS (σ.set i (some v)) H) : gName i v σ H QS := h
theorem var {i : Nat} (h : σ[i]? = some (some v)) (q : Q v H) : tVar i σ H Q := ⟨v, h, q⟩
theorem c_ (q : Q v H) : tC v σ H Q := q
theorem op {r : R2} (h : ta σ H fun x H1 => tb σ H1 fun y H2 => r x y H2 Q) : tOp r ta tb σ H Q := h
theorem un {r : V → Hp → VK → Prop} (h : ta σ H fun x H1 => r x H1 Q) : tUn r ta σ H Q := h
theorem cb {r : List V → Hp → VK → Prop} (h : t σ H fun vs H1 => r vs H1 Q) : tCB r t σ H Q := h
theorem cons (h : ta σ H fun x H1 => t σ H1 fun xs H2 => QA (x :: xs) H2) : tCons ta t σ H QA := h
theorem nil (h : QA [] H) : tNil σ H QA := h
theorem tup (h : t σ H fun xs H1 => xs.length ≤ sizeLine ∧ ∀ p, H1 p = none → Q (.ref p) (upd H1 p (.tup xs))) : tTup t σ H Q := h
theorem lst (h : t σ H fun xs H1 => xs.length ≤ sizeLine ∧ ∀ p, H1 p = none → Q (.ref p) (upd H1 p (.lst xs))) : tLst t σ H Q := h
theorem B_ (h : ta σ H fun x H1 => ∃ c, x = .bl c ∧ QB c H1) : tB ta σ H QB := h
theorem test (h : ta σ H fun x H1 => ∃ c, x = .bl c ∧ QB c H1) : tTest ta σ H QB := h
theorem exB {b : Bool} {F : Bool → Prop} (q : F b) : ∃ c, V.bl b = V.bl c ∧ F c := ⟨b, rfl, q⟩
theorem exI {i : Int} {F : Int → Prop} (q : F i) : ∃ j, V.int i = V.int j ∧ F j := ⟨i, rfl, q⟩
theorem and_ (h : c1 σ H fun b H1 => if b = true then c2 σ H1 QB else QB false H1) : tAnd c1 c2 σ H QB := h
theorem or_ (h : c1 σ H fun b H1 => if b = true then QB true H1 else c2 σ H1 QB) : tOr c1 c2 σ H QB := h
theorem not_ (h : c1 σ H fun b H1 => QB (!b) H1) : tNot c1 σ H QB := h
theorem andV (h : ta σ H fun x H1 => ∃ c, x = .bl c ∧ if c = true then tb σ H1 Q else Q (.bl false) H1) : tAndV ta tb σ H Q := h
theorem orV (h : ta σ H fun x H1 => ∃ c, x = .bl c ∧ if c = true then Q (.bl true) H1 else tb σ H1 Q) : tOrV ta tb σ H Q := h
theorem notV (h : ta σ H fun x H1 => ∃ c, x = .bl c ∧ Q (.bl (!c)) H1) : tNotV ta σ H Q := h
theorem if_ (h : c σ H fun b H1 => if b = true then ta σ H1 Q else tb σ H1 Q) : tIf c ta tb σ H Q := h
theorem ifT (h : A) : if true = true then A else B := by rw [if_pos rfl]; exact h
theorem ifF (h : B) : if false = true then A else B := by rw [if_neg Bool.false_ne_true]; exact h
theorem ifNT (h : B) : if (!true) = true then A else B := ifF h
theorem ifNF (h : A) : if (!false) = true then A else B := ifT h
theorem yes {QT : Bool → Hp → Prop} (h : QT true H) : tYes σ H QT := h
theorem sl {r : V → Option Int → Option Int → Hp → VK → Prop} {tl th : TO} (h : te σ H fun x H1 => tl σ H1 fun l H2 => th σ H2 fun u H3 => r x l u H3 Q) : tSl r te tl th σ H Q := h
theorem noPart {QO : Option Int → Hp → Prop} (h : QO none H) : tNoPart σ H QO := h
theorem part {QO : Option Int → Hp → Prop} (h : te σ H fun x H1 => ∃ i, x = .int i ∧ QO (some i) H1) : tPart te σ H QO := h
theorem i0 {g : Int → Int → V} {i j : Int} (q : Q (g i j) H) : rI0 g (.int i) (.int j) H Q := ⟨i, j, rfl, rfl, q⟩
theorem i1 {C : Int → Int → Prop} {g : Int → Int → V} {i j : Int} (hc : C i j) (q : Q (g i j) H) : rI C g (.int i) (.int j) H Q := ⟨i, j, rfl, rfl, hc, q⟩
theorem eqS {x y : Str} (q : Q (.bl (decide (x = y))) H) : rEq (.str x) (.str y) H Q := ⟨rfl, by
  have e : decide (V.str x = V.str y) = decide (x = y) := decide_eq_decide.mpr ⟨fun z => V.str.inj z, fun z => congrArg V.str z⟩
  rw [e]; exact q⟩
theorem eqI {x y : Int} (q : Q (.bl (decide (x = y))) H) : rEq (.int x) (.int y) H Q := ⟨rfl, by
  have e : decide (V.int x = V.int y) = decide (x = y) := decide_eq_decide.mpr ⟨fun z => V.int.inj z, fun z => congrArg V.int z⟩
  rw [e]; exact q⟩
theorem neI {x y : Int} (q : Q (.bl (!decide (x = y))) H) : rNe (.int x) (.int y) H Q := ⟨rfl, by
  have e : decide (V.int x = V.int y) = decide (x = y) := decide_eq_decide.mpr ⟨fun z => V.int.inj z, fun z => congrArg V.int z⟩
  rw [e]; exact q⟩
theorem neS {x y : Str} (q : Q (.bl (!decide (x = y))) H) : rNe (.str x) (.str y) H Q := ⟨rfl, by
  have e : decide (V.str x = V.str y) = decide (x = y) := decide_eq_decide.mpr ⟨fun z => V.str.inj z, fun z => congrArg V.str z⟩
  rw [e]; exact q⟩
theorem isN_n (q : Q (.bl true) H) : rIsN .non .non H Q := ⟨rfl, q⟩
theorem isN_r {a : Addr} (q : Q (.bl false) H) : rIsN (.ref a) .non H Q := ⟨rfl, q⟩
theorem isN_s {x : Str} (q : Q (.bl false) H) : rIsN (.str x) .non H Q := ⟨rfl, q⟩
theorem isN_b {x : Bool} (q : Q (.bl false) H) : rIsN (.bl x) .non H Q := ⟨rfl, q⟩
theorem isN_i {x : Int} (q : Q (.bl false) H) : rIsN (.int x) .non H Q := ⟨rfl, q⟩
theorem notN_n (q : Q (.bl false) H) : rNotN .non .non H Q := ⟨rfl, q⟩
theorem notN_r {a : Addr} (q : Q (.bl true) H) : rNotN (.ref a) .non H Q := ⟨rfl, q⟩
theorem notN_s {x : Str} (q : Q (.bl true) H) : rNotN (.str x) .non H Q := ⟨rfl, q⟩
theorem call {sp : Sp} {E : XK} (h : t σ H fun vs H1 => sp vs H1 Q E) : tCall sp [] E t σ H Q := by
  have e : (fun (vs : List V) H1 => sp (vs ++ []) H1 Q E) = fun vs H1 => sp vs H1 Q E := by
    funext vs H1
    rw [List.append_nil]
  show t σ H (fun vs H1 => sp (vs ++ []) H1 Q E)
  rw [e]
  exact h
theorem make {C : Addr} {sp : Sp} {E : XK} (h : t σ H fun vs H1 => ∀ x dx, H1 x = none → H1 dx = none → dx ≠ x → sp (.ref x :: vs) (upd (upd H1 dx (.own x)) x (.ins C dx [])) (fun v H2 => v = .non ∧ Q (.ref x) H2) E) : tMake C sp [] E t σ H Q := by
  have e : (fun (vs : List V) H1 => ∀ x dx, H1 x = none → H1 dx = none → dx ≠ x → sp (.ref x :: (vs ++ [])) (upd (upd H1 dx (.own x)) x (.ins C dx [])) (fun v H2 => v = .non ∧ Q (.ref x) H2) E) = fun vs H1 => ∀ x dx, H1 x = none → H1 dx = none → dx ≠ x → sp (.ref x :: vs) (upd (upd H1 dx (.own x)) x (.ins C dx [])) (fun v H2 => v = .non ∧ Q (.ref x) H2) E := by
    funext vs H1
    rw [List.append_nil]
  show t σ H (fun vs H1 => ∀ x dx, H1 x = none → H1 dx = none → dx ≠ x → sp (.ref x :: (vs ++ [])) (upd (upd H1 dx (.own x)) x (.ins C dx [])) (fun v H2 => v = .non ∧ Q (.ref x) H2) E)
  rw [e]
  exact h
theorem unp {n : Nat} {g : TGs} {a : Addr} {xs : List V} {QS : L2.St → Hp → Prop} (h : SqT K H a xs) (hl : xs.length = n) (q : g xs σ H QS) : gTup K n g (.ref a) σ H QS := ⟨a, xs, rfl, h, hl, q⟩
theorem gcons {g : TG} {u : TGs} {r : List V} {QS : L2.St → Hp → Prop} (q : g v σ H fun σ' H' => u r σ' H' QS) : gCons g u (v :: r) σ H QS := ⟨v, r, rfl, q⟩
theorem gnil {QS : L2.St → Hp → Prop} (q : QS σ H) : gNil [] σ H QS := ⟨rfl, q⟩
theorem bm {T : String} {r : V → List V → Hp → VK → Prop} (h : ta σ H fun x H1 => tyV K T x H1 ∧ t σ H1 fun xs H2 => r x xs H2 Q) : tBM K T r ta t σ H Q := h
theorem bm0 {T : String} {r : V → List V → Hp → VK → Prop} (h : ta σ H fun x H1 => tyV K T x H1 ∧ r x [] H1 Q) : tBM0 K T r ta σ H Q := h
theorem lenL {a : Addr} {xs : List V} (h : SqL K H a xs) (q : Q (.int (xs.length : Nat)) H) : ∃ p ys, [V.ref a] = [V.ref p] ∧ (SqL K H p ys ∨ SqT K H p ys) ∧ Q (.int (ys.length : Nat)) H := ⟨a, xs, rfl, .inl h, q⟩
theorem lenT {a : Addr} {xs : List V} (h : SqT K H a xs) (q : Q (.int (xs.length : Nat)) H) : ∃ p ys, [V.ref a] = [V.ref p] ∧ (SqL K H p ys ∨ SqT K H p ys) ∧ Q (.int (ys.length : Nat)) H := ⟨a, xs, rfl, .inr h, q⟩
theorem ixT {a : Addr} {xs : List V} {i : Int} (h : SqT K H a xs) (e : atI xs i = some v) (q : Q v H) : rIxT K (.ref a) (.int i) H Q := ⟨a, xs, i, v, rfl, rfl, h, e, q⟩
theorem ixL {a : Addr} {xs : List V} {i : Int} (h : SqL K H a xs) (e : atI xs i = some v) (q : Q v H) : rIxL K (.ref a) (.int i) H Q := ⟨a, xs, i, v, rfl, rfl, h, e, q⟩
theorem dget {td ty : TE} (h : td σ H fun x H1 => ty σ H1 fun y H2 => ∃ a v, x = .ref a ∧ DGet H2 a y (some v) ∧ Q v H2) : tDGet td ty σ H Q := h
theorem din {td ty : TE} (h : ty σ H fun y H1 => td σ H1 fun x H2 => ∃ a o, x = .ref a ∧ DGet H2 a y o ∧ Q (.bl o.isSome) H2) : tDIn ty td σ H Q := h
theorem fld {f : Str} {a C dx : Addr} {fs : List (Str × V)} (h : H a = some (.ins C dx fs)) (hc : Cls K C) (hn : NoAttr K C f) (l : fs.lookup f = some v) (q : Q v H) : ∃ (a' C' dx' : Addr) (fs' : List (Str × V)) (v' : V), V.ref a = .ref a' ∧ H a' = some (.ins C' dx' fs') ∧ Cls K C' ∧ NoAttr K C' f ∧ fs'.lookup f = some v' ∧ Q v' H := ⟨a, C, dx, fs, v, rfl, h, hc, hn, l, q⟩
theorem tfld {f : Str} (h : te σ H fun x H1 => ∃ (a : Addr) (C : Addr) (dx : Addr) (fs : List (Str × V)) (v : V), x = .ref a ∧ H1 a = some (.ins C dx fs) ∧ Cls K C ∧ NoAttr K C f ∧ fs.lookup f = some v ∧ Q v H1) : tFld K te f σ H Q := h
theorem then_ {k : V → Hp → VK → Prop} (h : ta σ H fun x H1 => k x H1 Q) : tThen ta k σ H Q := h
theorem aug {i : Nat} {x : V} {ti : TIp} (e : σ[i]? = some (some x)) (h : te σ H fun y H1 => ti x y H1 fun z H2 => nx (σ.set i (some z)) H2) : tAug i te ti ⟨nx, rt, bk, ct⟩ σ H := ⟨x, e, h⟩
theorem chain {r r' : R2} {tc : TE} (h : ta σ H fun x H1 => tb σ H1 fun y H2 => r x y H2 fun z H3 => ∃ k, z = .bl k ∧ if k = true then tc σ H3 fun u H4 => r' y u H4 Q else Q (.bl false) H3) : tChain r r' ta tb tc σ H Q := h
theorem itup {R : It → Hp → Prop} (h : te σ H fun x H1 => ∃ a, x = .ref a ∧ (∃ xs, SqT K H1 a xs) ∧ R (Itt K a) H1) : iTup K te σ H R := h
theorem ilist {R : It → Hp → Prop} (h : te σ H fun x H1 => ∃ a, x = .ref a ∧ (∃ xs, SqL K H1 a xs) ∧ R (Itl K a) H1) : iList K te σ H R := h
theorem lset (h : te σ H fun x H1 => ∃ (l : Addr) (xs : List Str), x = .ref l ∧ SqT K H1 l (xs.map V.str) ∧ xs.length ≤ 1000 ∧ Q (.int (G2.met (fun i => xs.getD i Str.empty) xs.length).length) H1) : tLenSetT K te σ H Q := h
theorem ikeys {td : TE} {R : It → Hp → Prop} (h : td σ H fun x H1 => ∃ d o, x = .ref d ∧ ((∃ kvs, H1 d = some (.frz o (.dK kvs)) ∧ R (Itk d o kvs) H1) ∨ ∃ kvs, H1 d = some (.frz o (.dT kvs)) ∧ R (Itkt d o kvs) H1)) : iKeys td σ H R := h
theorem ivals {td : TE} {R : It → Hp → Prop} (h : td σ H fun x H1 => ∃ d o kvs, x = .ref d ∧ H1 d = some (.frz o (.dK kvs)) ∧ R (Itd d o kvs) H1) : iVals td σ H R := h
theorem iitems {td : TE} {R : It → Hp → Prop} (h : td σ H fun x H1 => ∃ d o kvs, x = .ref d ∧ H1 d = some (.frz o (.dK kvs)) ∧ R (Iti d o kvs) H1) : iItems td σ H R := h
end
end RD
namespace L2
open PySem
/-- what a new object leaves -/
theorem Same.nw {H0 H : Hp} {p : Addr} {o : HO} (e : Same H0 H) (h : H p = none) : Same H0 (upd H p o) := fun b u q => by
  rw [upd_ne (ne_of_none (e b u q) h)]
  exact e b u q
/-- a change of what H0 does not know -/
theorem Same.mt {H0 H : Hp} {p : Addr} {o : HO} (e : Same H0 H) (h : H0 p = none) : Same H0 (upd H p o) := fun b u q => by
  rw [upd_ne (ne_of_none q h)]
  exact e b u q
end L2
namespace SF
open PySem PySem.Spec PyProof.Rows L2 G0
section
variable {K : PySem.W.Frag} {a : Addr} {xs ys : List V} {g : TG} {te : TE} {vs : List Nat} {σ : L2.St} {H1 : Hp} {D : Addr} {Qd : Hp → Prop}
/-- len of a list or a tuple; of a text; of a dict with text keys -/
def rLenQ (K : PySem.W.Frag) : List V → Hp → VK → Prop := fun xs H Q => ∃ p ys, xs = [.ref p] ∧ (SqL K H p ys ∨ SqT K H p ys) ∧ Q (.int (ys.length : Nat)) H
theorem call_lenQ {X : Cx} : CallR X (.builtin "len") (rLenQ X.K) := call_len_seq
theorem lenQt {p : Addr} {ys : List V} {H : Hp} {Q : VK} (h : SqT K H p ys) (q : Q (.int (ys.length : Nat)) H) : rLenQ K [.ref p] H Q := ⟨p, ys, rfl, .inr h, q⟩
theorem lenQl {p : Addr} {ys : List V} {H : Hp} {Q : VK} (h : SqL K H p ys) (q : Q (.int (ys.length : Nat)) H) : rLenQ K [.ref p] H Q := ⟨p, ys, rfl, .inl h, q⟩
def rLenT : List V → Hp → VK → Prop := fun xs H Q => ∃ z : Str, xs = [.str z] ∧ z.length ≤ sizeLine ∧ Q (.int (z.length : Nat)) H
theorem call_lenT {X : Cx} : CallR X (.builtin "len") rLenT := call_len_str
theorem lenTt {z : Str} {H : Hp} {Q : VK} (h : z.length ≤ 1000000) (q : Q (.int (z.length : Nat)) H) : rLenT [.str z] H Q := ⟨z, rfl, Nat.le_trans h (by decide), q⟩
def rLenDk : List V → Hp → VK → Prop := fun xs H Q => ∃ a kvs, xs = [.ref a] ∧ H a = some (.dK kvs) ∧ Q (.int (kvs.length : Nat)) H
theorem call_lenDk {X : Cx} : CallR X (.builtin "len") rLenDk := call_lenD
/-- what a turn of a comprehension says -/
def Turn (g : TG) (te : TE) (vs : List Nat) (σ : L2.St) (H1 : Hp) (x y : V) : Prop :=
  ∀ H, Same H1 H → ∀ QQ : VK, (∀ H', Same H H' → QQ y H') → g x (wipe σ vs) H fun σ2 H2 => wipe σ2 vs = wipe σ vs ∧ te σ2 H2 QQ
theorem lc_mapT (hS : SqT K H1 a xs) (hD : H1 D = none) (hl : ys.length = xs.length) (hz : xs.length ≤ 1000)
    (hs : ∀ (k : Nat) (x y : V), xs[k]? = some x → ys[k]? = some y → Turn g te vs σ H1 x y) (hd : ∀ H, Same H1 H → H D = some (.lst ys) → Qd H) :
    ∃ W : Nat → Nat → Hp → Prop, (∃ m, W 0 m (upd H1 D (.lst []))) ∧ ∀ i m H, W i m H →
      ((Itt K a).stop i H ∧ Qd H) ∨ ((Itt K a).go i H ∧ ∃ Nx : Hp → Prop, (∀ H', Nx H' → ∃ m', m' < m ∧ W (i + 1) m' H') ∧ ∀ x H', (Itt K a).yld i H x H' → g x (wipe σ vs) H' fun σ2 H2 => wipe σ2 vs = wipe σ vs ∧ tYes σ2 H2 fun b H3 =>
        if b = true then te σ2 H3 fun y H4 => ∃ acc, H4 D = some (.lst acc) ∧ acc.length < sizeLine ∧ Nx (upd H4 D (.lst (acc ++ [y]))) else Nx H3) := by
  refine lc_tup (xs := xs) (fun k H => Same H1 H ∧ H D = some (.lst (ys.take k))) ⟨(Same.refl _).mt hD, upd_same⟩ (fun _ H _ h => same_t h.1 hS) (fun k x H hx h => ?_) fun H h => hd H h.1 (by rw [h.2, List.take_of_length_le (by omega)])
  have hk : k < ys.length := by
    have := (List.getElem?_eq_some_iff.mp hx).1
    omega
  have hy : ys[k]? = some ys[k] := List.getElem?_eq_getElem hk
  refine hs k x ys[k] hx hy H h.1 _ fun H' sm => ?_
  have e := sm _ _ h.2
  refine ⟨_, e, ?_, (h.1.trans sm).mt hD, ?_⟩
  · rw [List.length_take, sizeLine_eq]
    omega
  · rw [upd_same, List.take_succ, hy]
    rfl
theorem lc_mapL (hS : SqL K H1 a xs) (hD : H1 D = none) (hl : ys.length = xs.length) (hz : xs.length ≤ 1000)
    (hs : ∀ (k : Nat) (x y : V), xs[k]? = some x → ys[k]? = some y → Turn g te vs σ H1 x y) (hd : ∀ H, Same H1 H → H D = some (.lst ys) → Qd H) :
    ∃ W : Nat → Nat → Hp → Prop, (∃ m, W 0 m (upd H1 D (.lst []))) ∧ ∀ i m H, W i m H →
      ((Itl K a).stop i H ∧ Qd H) ∨ ((Itl K a).go i H ∧ ∃ Nx : Hp → Prop, (∀ H', Nx H' → ∃ m', m' < m ∧ W (i + 1) m' H') ∧ ∀ x H', (Itl K a).yld i H x H' → g x (wipe σ vs) H' fun σ2 H2 => wipe σ2 vs = wipe σ vs ∧ tYes σ2 H2 fun b H3 =>
        if b = true then te σ2 H3 fun y H4 => ∃ acc, H4 D = some (.lst acc) ∧ acc.length < sizeLine ∧ Nx (upd H4 D (.lst (acc ++ [y]))) else Nx H3) := by
  refine lc_list (xs := xs) (fun k H => Same H1 H ∧ H D = some (.lst (ys.take k))) ⟨(Same.refl _).mt hD, upd_same⟩ (fun _ H _ h => h.1.seq hS) (fun k x H hx h => ?_) fun H h => hd H h.1 (by rw [h.2, List.take_of_length_le (by omega)])
  have hk : k < ys.length := by
    have := (List.getElem?_eq_some_iff.mp hx).1
    omega
  have hy : ys[k]? = some ys[k] := List.getElem?_eq_getElem hk
  refine hs k x ys[k] hx hy H h.1 _ fun H' sm => ?_
  have e := sm _ _ h.2
  refine ⟨_, e, ?_, (h.1.trans sm).mt hD, ?_⟩
  · rw [List.length_take, sizeLine_eq]
    omega
  · rw [upd_same, List.take_succ, hy]
    rfl
end
section
variable {K : PySem.W.Frag} {g : TG} {te : TE} {vs : List Nat} {σ : L2.St} {H1 : Hp} {D : Addr} {Qd : Hp → Prop} {J : It} {n : Nat} {G : Hp → Prop} {Y : Nat → Hp → V → Hp → Prop} {ys : List V}
/-- a turn of a comprehension: at i it gives y -/
def TurnW (Y : Nat → Hp → V → Hp → Prop) (g : TG) (te : TE) (vs : List Nat) (σ : L2.St) (H1 : Hp) (i : Nat) (y : V) : Prop :=
  ∀ x H H', Same H1 H → Y i H x H' → ∀ QQ : VK, (∀ H'', Same H H'' → QQ y H'') → g x (wipe σ vs) H' fun σ2 H2 => wipe σ2 vs = wipe σ vs ∧ te σ2 H2 QQ
theorem lc_map (w : Walk J n G Y) (hl : ys.length = n) (hz : n ≤ 1000) (hD : H1 D = none) (hG : ∀ H, Same H1 H → G H)
    (hs : ∀ (i : Nat) (y : V), ys[i]? = some y → TurnW Y g te vs σ H1 i y) (hd : ∀ H, Same H1 H → H D = some (.lst ys) → Qd H) :
    ∃ W : Nat → Nat → Hp → Prop, (∃ m, W 0 m (upd H1 D (.lst []))) ∧ ∀ i m H, W i m H →
      (J.stop i H ∧ Qd H) ∨ (J.go i H ∧ ∃ Nx : Hp → Prop, (∀ H', Nx H' → ∃ m', m' < m ∧ W (i + 1) m' H') ∧ ∀ x H', J.yld i H x H' → g x (wipe σ vs) H' fun σ2 H2 => wipe σ2 vs = wipe σ vs ∧ tYes σ2 H2 fun b H3 =>
        if b = true then te σ2 H3 fun y H4 => ∃ acc, H4 D = some (.lst acc) ∧ acc.length < sizeLine ∧ Nx (upd H4 D (.lst (acc ++ [y]))) else Nx H3) := by
  refine lc_it w (fun k H => Same H1 H ∧ H D = some (.lst (ys.take k))) ⟨(Same.refl _).mt hD, upd_same⟩ (fun _ H _ h => hG H h.1) (fun k x H H' hk h hy => ?_) fun H h => hd H h.1 (by rw [h.2, List.take_of_length_le (by omega)])
  have hk2 : k < ys.length := by omega
  have hy2 : ys[k]? = some ys[k] := List.getElem?_eq_getElem hk2
  refine hs k ys[k] hy2 x H H' h.1 hy _ fun H'' sm => ?_
  have e := sm _ _ h.2
  refine ⟨_, e, ?_, (h.1.trans sm).mt hD, ?_⟩
  · rw [List.length_take, sizeLine_eq]
    omega
  · rw [upd_same, List.take_succ, hy2]
    rfl
theorem walk_zipT {a b : Addr} {xs zs : List V} {n : Nat} (hn : n = min xs.length zs.length) : Walk (RZ.ItzT K a b) n (fun H => SqT K H a xs ∧ SqT K H b zs) (YPair (fun i => xs[i]?) (fun i => zs[i]?)) := by
  subst hn
  refine ⟨fun i _ hi q => ?_, fun _ q => ⟨xs, zs, q.1, q.2, by omega⟩, fun i H v H' _ q y => ?_⟩
  · have h1 : i < xs.length := by omega
    have h2 : i < zs.length := by omega
    exact ⟨xs, zs, xs[i], zs[i], q.1, q.2, by simp [h1], by simp [h2]⟩
  · obtain ⟨T, x, z, h1, h2, h3, h4, h5⟩ := y
    exact ⟨T, x, z, h1, h2, h3, h4 xs q.1, h5 zs q.2⟩
end
/-- a dict that was locked, and is let go -/
theorem _root_.L2.Same.unlock {H H2 : Hp} {d : Addr} {u : HO} {od : Obj} (e : Same (upd H d (.frz od u)) H2) (h : H d = some u) : Same H (upd H2 d u) := fun b o q => by
  by_cases hb : b = d
  · subst hb
    rw [upd_same, ← h, q]
  · rw [upd_ne hb]
    exact e b o (by rw [upd_ne hb]; exact q)
theorem lockE {t : TE} {σ : L2.St} {H : Hp} {Q : VK} {d : Addr} {u : HO} (h : H d = some u) (mu : Mut (some u)) (q : ∀ od, t σ (upd H d (.frz od u)) fun v H' => H' d = some (.frz od u) ∧ Q v (upd H' d u)) : tLockE t σ H Q := ⟨d, u, h, mu, q⟩
theorem lockS {t : TS} {D : Ends} {σ : L2.St} {H : Hp} {d : Addr} {u : HO} (h : H d = some u) (mu : Mut (some u)) (q : ∀ od, t ⟨fun σ' H' => H' d = some (.frz od u) ∧ D.nx σ' (upd H' d u), fun v H' => H' d = some (.frz od u) ∧ D.rt v (upd H' d u), fun σ' H' => H' d = some (.frz od u) ∧ D.bk σ' (upd H' d u), fun σ' H' => H' d = some (.frz od u) ∧ D.ct σ' (upd H' d u)⟩ σ (upd H d (.frz od u))) : tLock t D σ H := ⟨d, u, h, mu, q⟩
end SF

set_option Elab.async false
set_option linter.all false
set_option maxRecDepth 100000
set_option maxHeartbeats 4000000
namespace SF
open PySem PySem.Spec PyProof.Rows L2 G0
open C8 (Cal Mak Met pe_c pe_mk pe_mt pe_mt0 pe_gc)
def topS (i : Nat) : Stmt := PySem.Challenge.pw_standsfor_k04_places.main.body.getD i (.Pass ⟨0, 0, 0, 0⟩)
abbrev Int1 (mg : Str → Option Value) (x : Str) (i : Int) : Prop := ∃ u, mg x = some u ∧ RelV (.int i) u
structure Txt (K : PySem.W.Frag) (mg : Str → Option Value) : Prop where
  b_len : mg "len" = none
  b_isinstance : mg "isinstance" = none
  b_str : mg "str" = none
  b_tuple : mg "tuple" = none
  b_dict : mg "dict" = none
  b_all : mg "all" = none
  b_set : mg "set" = none
  b_zip : mg "zip" = none
  b_range : mg "range" = none
  b_sorted : mg "sorted" = none
  b_list : mg "list" = none
  b_super : mg "super" = none
  g_MOST_PARTS : Int1 mg "MOST_PARTS" 100000
  g_MOST_LETTERS : Int1 mg "MOST_LETTERS" 8
  g_MOST_STATEMENTS : Int1 mg "MOST_STATEMENTS" 12
  g_MOST_BLOCKS : Int1 mg "MOST_BLOCKS" 8
  g_MOST_TESTS : Int1 mg "MOST_TESTS" 3
  g_MOST_THINGS : Int1 mg "MOST_THINGS" 3
  g_MOST_PARAMS : Int1 mg "MOST_PARAMS" 3
  g_MOST_CLASSES : Int1 mg "MOST_CLASSES" 8
  g_MOST_FIELDS : Int1 mg "MOST_FIELDS" 3
  g_MOST_WORDS : Int1 mg "MOST_WORDS" 4
  g_MOST_METHODS : Int1 mg "MOST_METHODS" 5
def spIsName (K : PySem.W.Frag) : Sp := fun vs H Q _ => ∃ d v, vs = [v] ∧ Rep K H d v ∧ Q (.bl (nameD d)) H
def spIsNames (K : PySem.W.Frag) : Sp := fun vs H Q _ => ∃ (d : D) (v : V) (lo hi : Nat), vs = [v, .int lo, .int hi] ∧ hi ≤ 1000 ∧ Rep K H d v ∧ ∀ H', Same H H' → Q (.bl (namesD lo hi d)) H'
def nameK : Key → Bool
  | .inr x => nameS x
  | .inl _ => false
def nameKs (most : Nat) (kvs : List (Key × V)) : Bool := decide (kvs.length ≤ most) && kvs.all fun kv => nameK kv.1
def spNameDict (K : PySem.W.Frag) : Sp := fun vs H Q _ => ∃ (a : Addr) (kvs : List (Key × V)) (most : Nat), vs = [.ref a, .int most] ∧ H a = some (.dK kvs) ∧ most ≤ 1000 ∧
  (∀ (i : Nat) (kv : Key × V), kvs[i]? = some kv → ∀ x, kv.1 = .inr x → x.length ≤ 1000) ∧ ∀ H', Same H H' → Q (.bl (nameKs most kvs)) H'
section
variable {P : Program} {w : World} {K : PySem.W.Frag} {mg : Str → Option Value} {base : Heap}
local macro_rules | `(tactic| walk_at "rd1") => `(tactic| first
  | (with_reducible refine RD.seq ?_) | (with_reducible refine RD.next ?_) | (with_reducible refine RD.ifS ?_) | (with_reducible refine RD.ret ?_) | (with_reducible refine RD.retN ?_) | (with_reducible refine RD.drop ?_) | (with_reducible refine RD.asg ?_) | (with_reducible refine RD.gname ?_)
  | ((with_reducible apply RD.var); exact rfl) | (with_reducible refine RD.c_ ?_) | (with_reducible refine RD.op ?_) | (with_reducible refine RD.un ?_) | (with_reducible refine RD.cb ?_) | (with_reducible refine RD.cons ?_) | (with_reducible refine RD.nil ?_) | (with_reducible refine RD.tup ?_) | (with_reducible refine RD.lst ?_)
  | (with_reducible refine RD.B_ ?_) | (with_reducible refine RD.test ?_) | (with_reducible refine RD.exB ?_) | (with_reducible refine RD.exI ?_) | (with_reducible refine RD.and_ ?_) | (with_reducible refine RD.or_ ?_) | (with_reducible refine RD.not_ ?_) | (with_reducible refine RD.andV ?_) | (with_reducible refine RD.orV ?_) | (with_reducible refine RD.notV ?_) | (with_reducible refine RD.if_ ?_)
  | (with_reducible refine RD.ifT ?_) | (with_reducible refine RD.ifF ?_) | (with_reducible refine RD.ifNT ?_) | (with_reducible refine RD.ifNF ?_) | (with_reducible refine RD.yes ?_) | (with_reducible refine RD.sl ?_) | (with_reducible refine RD.noPart ?_) | (with_reducible refine RD.part ?_) | (with_reducible refine RD.i0 ?_) | (with_reducible refine RD.eqS ?_) | (with_reducible refine RD.eqI ?_) | (with_reducible refine RD.neS ?_) | (with_reducible refine RD.neI ?_)
  | (with_reducible refine RD.isN_n ?_) | (with_reducible refine RD.isN_r ?_) | (with_reducible refine RD.isN_s ?_) | (with_reducible refine RD.isN_b ?_) | (with_reducible refine RD.isN_i ?_) | (with_reducible refine RD.notN_n ?_) | (with_reducible refine RD.notN_r ?_) | (with_reducible refine RD.notN_s ?_)
  | (with_reducible refine RD.call ?_) | (with_reducible refine RD.make ?_) | (with_reducible refine RD.gcons ?_) | (with_reducible refine RD.gnil ?_) | (with_reducible refine RD.bm ?_) | (with_reducible refine RD.bm0 ?_) | (with_reducible refine RD.dget ?_) | (with_reducible refine RD.din ?_) | (with_reducible refine RD.tfld ?_) | (with_reducible refine RD.then_ ?_) | (with_reducible refine RD.chain ?_) | (with_reducible refine RD.itup ?_) | (with_reducible refine RD.ikeys ?_) | (with_reducible refine RD.ivals ?_) | (with_reducible refine RD.iitems ?_) | (with_reducible refine RD.lset ?_) | (with_reducible refine RD.ilist ?_) | ((with_reducible apply RD.aug); exact rfl))
local macro_rules | `(tactic| walk_at "rd") => `(tactic| repeat walk_at "rd1")

theorem sc_is_name : FnScope ["thing"] ["thing"] (defScope (topS 2)) := ⟨rfl, rfl, rfl, by decide +kernel, rfl, by decide +kernel, by decide +kernel⟩
theorem ok_is_name (T : Txt K mg) {f : Addr} {fd : FuncData} (F : Fun K "is_name" "is_name" (topS 2) f fd) : FnOk P w K mg base CX0 1 f fd ["thing"] (spIsName K) := by
  refine F.ok sc_is_name (fun vs H Q E h => ?_) (fun cdv A outer s H vs Q E hr h => ?_)
  · obtain ⟨d, v, rfl, _⟩ := h
    rfl
  obtain ⟨d, v, rfl, r, q⟩ := h
  refine ⟨_, (pss_cons (ps_if ((pw_or (pt_not (pt_val (pe_callB call_isi (by rfl) T.b_isinstance (by decide +kernel) (pa_cons (pv 0) (pa_cons (pe_bltn (v := .ty "str") (by rfl) T.b_str (by decide +kernel) rfl) pa_nil))))) (pw_or1 (pt_cmpR op_gt (pe_callB call_lenT (by rfl) T.b_len PySem.boot_len (pa_cons (pv 0) pa_nil)) (pe_gc (by rfl) T.g_MOST_LETTERS) (nomark _))))).pt (pss_one (ps_ret pe_bl)) pss_nil)
      (pss_one (ps_ret (pe_and (pe_bm0 PySem.F.plainAttrs_str PySem.F.slot_str_isascii PySem.F.type_str_isascii mt_isascii (pv 0)) (pe_and (pe_bm0 PySem.F.plainAttrs_str PySem.F.slot_str_isalpha PySem.F.type_str_isalpha mt_isalpha (pv 0)) (pe_one (pe_bm0 PySem.F.plainAttrs_str PySem.F.slot_str_islower PySem.F.type_str_islower mt_islower (pv 0)))))))), ?_⟩
  walk_at "rd"
  refine isi_str r ?_
  cases d with
  | s x =>
    obtain ⟨rfl, hx⟩ := rep_s.mp r
    dsimp only [isS]
    walk_at "rd"
    refine lenTt (by omega) ?_
    (try dsimp only)
    walk_at "rd"
    refine ite2 (fun h8 => ?_) (fun h8 => ?_)
    · have e : nameD (.s x) = false := by
        have h9 : (8 : Int) < (x.length : Int) := of_decide_eq_true h8
        show (decide (x.length ≤ 8) && _) = false
        rw [decide_eq_false (by omega)]; rfl
      rw [e] at q
      exact q
    · have e : nameD (.s x) = (Txt.isascii x && (Txt.isalpha x && Txt.islower x)) := by
        have h9 : ¬ (8 : Int) < (x.length : Int) := fun z => h8 (decide_eq_true z)
        show (decide (x.length ≤ 8) && _) = _
        rw [decide_eq_true (by omega)]; rfl
      rw [e] at q
      walk_at "rd"
      refine ⟨rfl, x, rfl, rfl, trivial, ?_⟩
      (try dsimp only)
      walk_at "rd"
      refine ite2 (fun a1 => ?_) (fun a1 => ?_)
      · rw [a1, Bool.true_and] at q
        walk_at "rd"
        refine ⟨rfl, x, rfl, rfl, trivial, ?_⟩
        (try dsimp only)
        walk_at "rd"
        refine ite2 (fun a2 => ?_) (fun a2 => ?_)
        · rw [a2, Bool.true_and] at q
          walk_at "rd"
          exact ⟨rfl, x, rfl, rfl, trivial, q⟩
        · rw [eq_false_of_ne_true a2, Bool.false_and] at q
          exact q
      · rw [eq_false_of_ne_true a1, Bool.false_and] at q
        exact q
  | t ds =>
    dsimp only [isS]
    walk_at "rd"
    exact q
  | o =>
    dsimp only [isS]
    walk_at "rd"
    exact q
theorem sc_is_names : FnScope ["thing", "least", "most", "part"] ["thing", "least", "most"] (defScope (topS 3)) := ⟨rfl, rfl, rfl, by decide +kernel, rfl, by decide +kernel, by decide +kernel⟩
theorem ok_is_names (T : Txt K mg) (c_is_name : Cal P w K mg base 1 "is_name" (spIsName K) []) {f : Addr} {fd : FuncData} (F : Fun K "is_names" "is_names" (topS 3) f fd) : FnOk P w K mg base CX0 2 f fd ["thing", "least", "most"] (spIsNames K) := by
  refine F.ok sc_is_names (fun vs H Q E h => ?_) (fun cdv A outer s H vs Q E hr h => ?_)
  · obtain ⟨d, v, lo, hi, rfl, _⟩ := h
    rfl
  obtain ⟨d, v, lo, hi, rfl, hhi, r, q⟩ := h
  refine ⟨_, (pss_cons (ps_if ((pw_or (pt_not (pt_val (pe_callB call_isi (by rfl) T.b_isinstance (by decide +kernel) (pa_cons (pv 0) (pa_cons (pe_bltn (v := .ty "tuple") (by rfl) T.b_tuple (by decide +kernel) rfl) pa_nil))))) (pw_or1 (pt_not (pt_chain op_le op_le (pv 1) (pe_callB call_lenQ (by rfl) T.b_len PySem.boot_len (pa_cons (pv 0) pa_nil)) (pv 2)))))).pt (pss_one (ps_ret pe_bl)) pss_nil)
      (pss_one (ps_ret (pe_and (pe_callB (cr_all rfl) (by rfl) T.b_all (by decide +kernel) (pa_cons (pe_lc (own := [("part", 3)]) (tt := tYes) rfl sc_is_names.nd (pi_tup (pv 0)) (blkOk_by (N := ["thing", "least", "most", "part"]) (sc := defScope (topS 3)) (by decide +kernel)) (fun _ _ _ _ _ => (pg_name (i := 3) sc_is_names.nd rfl (Or.inl rfl))) (fun _ _ _ _ _ => pts_nil) (fun _ _ _ _ _ => (pe_c c_is_name hr (by decide) (by rfl) (pa_cons (pv 3) pa_nil)))) pa_nil)) (pe_one (pe_cmpR op_eq (pe_lenSetT rfl (by rfl) T.b_len (by rfl) T.b_set (pv 0)) (pe_callB call_lenQ (by rfl) T.b_len PySem.boot_len (pa_cons (pv 0) pa_nil)) (nomark _))))))), ?_⟩
  walk_at "rd"
  refine isi_tup r ?_
  have no : namesD lo hi d = false → Q (.bl false) H := fun e => by
    rw [e] at q
    exact q H (Same.refl H)
  cases d with
  | s x =>
    dsimp only [isT]
    walk_at "rd"
    exact no rfl
  | o =>
    dsimp only [isT]
    walk_at "rd"
    exact no rfl
  | t ds =>
    obtain ⟨p, vs, rfl, hS, hR⟩ := rep_t.mp r
    have hl := reps_len hR
    have nd : namesD lo hi (.t ds) = (decide (lo ≤ ds.length) && (decide (ds.length ≤ hi) && (ds.all nameD && decide ((ds.map strOf).Nodup)))) := rfl
    dsimp only [isT]
    walk_at "rd"
    refine lenQt hS ?_
    walk_at "rd"
    refine ite2 (fun h1 => ?_) (fun h1 => ?_)
    · have g1 : lo ≤ vs.length := by
        have := of_decide_eq_true h1
        omega
      walk_at "rd"
      by_cases h2 : ((vs.length : Nat) : Int) ≤ ((hi : Nat) : Int)
      · rw [decide_eq_true h2]
        walk_at "rd"
        rw [decide_eq_true (show lo ≤ ds.length by omega), decide_eq_true (show ds.length ≤ hi by omega), Bool.true_and, Bool.true_and] at nd
        unfold tLc
        walk_at "rd"
        refine ⟨p, rfl, ⟨_, hS⟩, fun D hD => lc_mapT (ys := ds.map fun d => V.bl (nameD d)) hS hD (by rw [List.length_map]; exact hl) (by omega) (fun k x y hx hy => ?_) fun H1 s1 hL => ?_⟩
        · obtain ⟨d, hd, rd⟩ := reps_at hR hx
          rw [List.getElem?_map, hd] at hy
          obtain rfl := Option.some.inj hy
          intro H2 s2 QQ qq
          walk_at "rd"
          refine ⟨rfl, ?_⟩
          walk_at "rd"
          exact ⟨d, x, rfl, rd.same s2, qq _ (Same.refl _)⟩
        · walk_at "rd"
          refine ⟨D, ds.map nameD, rfl, SqL.of (by rw [hL, List.map_map]; rfl), ?_⟩
          walk_at "rd"
          have ea : (ds.map nameD).all id = ds.all nameD := by rw [List.all_map]; rfl
          rw [ea]
          by_cases h3 : ds.all nameD = true
          · rw [h3]
            rw [h3, Bool.true_and] at nd
            have ev := names_vs hR h3
            walk_at "rd"
            refine ⟨p, ds.map strOf, rfl, by rw [← ev]; exact same_t s1 hS, by rw [List.length_map]; omega, ?_⟩
            walk_at "rd"
            refine lenQt (same_t s1 hS) ?_
            walk_at "rd"
            have e1 : decide (((G2.met (fun i => (ds.map strOf).getD i Str.empty) (ds.map strOf).length).length : Int) = ((vs.length : Nat) : Int)) = namesD lo hi (.t ds) := by
              rw [nd, ← met_nodup]
              refine decide_eq_decide.mpr ?_
              rw [show vs.length = (ds.map strOf).length by rw [List.length_map]; exact hl.symm]
              omega
            rw [e1]
            exact q _ s1
          · rw [eq_false_of_ne_true h3, Bool.false_and] at nd
            rw [eq_false_of_ne_true h3]
            walk_at "rd"
            rw [nd] at q
            exact q _ s1
      · rw [decide_eq_false h2]
        walk_at "rd"
        exact no (by rw [nd, decide_eq_false (show ¬ ds.length ≤ hi by omega), Bool.false_and, Bool.and_false])
    · walk_at "rd"
      have g1 : ¬ lo ≤ vs.length := fun z => h1 (decide_eq_true (by omega))
      exact no (by rw [nd, decide_eq_false (show ¬ lo ≤ ds.length by omega), Bool.false_and])
theorem sc_is_name_dict : FnScope ["thing", "most", "key"] ["thing", "most"] (defScope (topS 4)) := ⟨rfl, rfl, rfl, by decide +kernel, rfl, by decide +kernel, by decide +kernel⟩
theorem ok_is_name_dict (T : Txt K mg) (c_is_name : Cal P w K mg base 1 "is_name" (spIsName K) []) {f : Addr} {fd : FuncData} (F : Fun K "is_name_dict" "is_name_dict" (topS 4) f fd) : FnOk P w K mg base CX0 2 f fd ["thing", "most"] (spNameDict K) := by
  refine F.ok sc_is_name_dict (fun vs H Q E h => ?_) (fun cdv A outer s H vs Q E hr h => ?_)
  · obtain ⟨a, kvs, most, rfl, _⟩ := h
    rfl
  obtain ⟨a, kvs, most, rfl, hA, hm, hk, q⟩ := h
  refine ⟨_, (pss_cons (ps_if ((pw_or (pt_not (pt_val (pe_callB call_isi (by rfl) T.b_isinstance (by decide +kernel) (pa_cons (pv 0) (pa_cons (pe_bltn (v := .ty "dict") (by rfl) T.b_dict (by decide +kernel) rfl) pa_nil))))) (pw_or1 (pt_cmpR op_gt (pe_callB call_lenDk (by rfl) T.b_len PySem.boot_len (pa_cons (pv 0) pa_nil)) (pv 1) (nomark _))))).pt (pss_one (ps_ret pe_bl)) pss_nil)
      (pss_one (ps_ret (pe_callB (cr_all rfl) (by rfl) T.b_all (by decide +kernel) (pa_cons (pe_lock (pe_lc (own := [("key", 2)]) (tt := tYes) rfl sc_is_name_dict.nd (pi_keys (pv 0)) (blkOk_by (N := ["thing", "most", "key"]) (sc := defScope (topS 4)) (by decide +kernel)) (fun _ _ _ _ _ => (pg_name (i := 2) sc_is_name_dict.nd rfl (Or.inl rfl))) (fun _ _ _ _ _ => pts_nil) (fun _ _ _ _ _ => (pe_c c_is_name hr (by decide) (by rfl) (pa_cons (pv 2) pa_nil))))) pa_nil))))), ?_⟩
  walk_at "rd"
  refine isi_go (.base (.dK hA)) k_dd ?_
  walk_at "rd"
  refine ⟨a, kvs, rfl, hA, ?_⟩
  walk_at "rd"
  refine ite2 (fun h1 => ?_) (fun h1 => ?_)
  · walk_at "rd"
    have e : nameKs most kvs = false := by
      have := of_decide_eq_true h1
      unfold nameKs
      rw [decide_eq_false (by omega), Bool.false_and]
    rw [e] at q
    exact q H (Same.refl H)
  · have hl : kvs.length ≤ most := by
      have : ¬ ((most : Nat) : Int) < ((kvs.length : Nat) : Int) := fun z => h1 (decide_eq_true z)
      omega
    walk_at "rd"
    refine lockE hA trivial fun od => ?_
    unfold tLc
    walk_at "rd"
    refine ⟨a, od, rfl, .inl ⟨kvs, upd_same, fun D hD => lc_map walk_keys (ys := kvs.map fun kv => V.bl (nameK kv.1)) (by rw [List.length_map]) (by omega) hD (fun H' s' => s' _ _ upd_same) (fun i y hy => ?_) fun H1 s1 hL => ?_⟩⟩
    · rintro x H2 H3 s2 ⟨rfl, k, v, hkv, rfl⟩ QQ qq
      rw [List.getElem?_map, hkv] at hy
      obtain rfl := Option.some.inj hy
      walk_at "rd"
      refine ⟨rfl, ?_⟩
      walk_at "rd"
      have sm := hk _ _ hkv
      cases k with
      | inl i => exact ⟨.o, .int i, rfl, rep_o.mpr ⟨"int", .base (.int i), kit_ty (by decide +kernel), kit_ty (by decide +kernel), .inl rfl⟩, qq _ (Same.refl _)⟩
      | inr z => exact ⟨.s z, .str z, rfl, rep_s.mpr ⟨rfl, sm z rfl⟩, qq _ (Same.refl _)⟩
    · have hDa : D ≠ a := fun e => by
        rw [e, upd_same] at hD
        cases hD
      refine ⟨s1 _ _ upd_same, ?_⟩
      walk_at "rd"
      refine ⟨D, kvs.map fun kv => nameK kv.1, rfl, SqL.of (by rw [upd_ne hDa, hL, List.map_map]; rfl), ?_⟩
      have e : (kvs.map fun kv => nameK kv.1).all id = nameKs most kvs := by
        unfold nameKs
        rw [decide_eq_true hl, Bool.true_and, List.all_map]
        rfl
      rw [e]
      exact q _ (s1.unlock hA)
end
end SF

set_option Elab.async false
set_option linter.all false
set_option maxRecDepth 100000
set_option maxHeartbeats 4000000
/-! what a block is, by a worklist; objects made in comprehensions -/
namespace SF
open PySem PySem.Spec PyProof.Rows L2 G0
inductive Kd where
  | block | function | things | params | name | field | cls | simple | right | statement | test
deriving DecidableEq
def Kd.txt : Kd → Str
  | .block => "block" | .function => "function" | .things => "things" | .params => "params" | .name => "name" | .field => "field" | .cls => "class" | .simple => "simple" | .right => "right" | .statement => "statement" | .test => "test"
structure Wk where
  k : Kd
  d : D
  deep : Nat
  ret : Bool
  tests : Nat
structure Pl where
  cls : Str → Bool
  fld : Str → Bool
  im : Bool
  hp : Bool
mutual
def sz : D → Nat
  | .t ds => szs ds + 1
  | _ => 1
def szs : List D → Nat
  | [] => 0
  | d :: r => sz d + szs r
end
theorem sz_pos (d : D) : 1 ≤ sz d := by
  cases d <;> simp [sz]
theorem szs_len : ∀ ds : List D, ds.length ≤ szs ds
  | [] => Nat.le_refl _
  | d :: r => by
    have := szs_len r
    have := sz_pos d
    simp only [List.length_cons, szs]
    omega
theorem szs_eq : ∀ ds : List D, szs ds = (ds.map sz).sum
  | [] => rfl
  | d :: r => by simp [szs, szs_eq r]
abbrev Tab := List (Str × List Kd)
def tSim : Tab := [("word", [.name]), ("none", []), ("name", [.name]), ("me", []), ("field", [.field]), ("fn", [.params, .function]), ("new", [.cls])]
def tCalls : Tab := [("call", [.simple, .things]), ("ask", [.simple, .name, .things]), ("parent", [.name, .things])]
def tTests : Tab := [("same", [.simple, .simple]), ("not", [.test]), ("both", [.test, .test]), ("either", [.test, .test])]
def tStm : Tab := [("let", [.name, .right]), ("set", [.name, .right]), ("keep", [.field, .right]), ("do", [.right]), ("print", [.simple]), ("return", [.right]), ("raise", [.right]), ("if", [.test, .block, .block]), ("while", [.test, .block]), ("try", [.block, .name, .block]), ("last", [.block, .block])]
def formW (k : Kd) (z : Str) : Option (List Kd) :=
  match k with
  | .statement => tStm.lookup z
  | .test => tTests.lookup z
  | .right => if (tCalls.lookup z).isSome = true then tCalls.lookup z else tSim.lookup z
  | _ => tSim.lookup z
def formOf (k : Kd) : List D → Option (List Kd)
  | .s z :: _ => formW k z
  | _ => none
def mayS (P : Pl) (z : Str) (ret : Bool) : Bool := if z = ("me" : Str) then P.im else if z = ("parent" : Str) then P.hp else if z = ("return" : Str) then ret else true
def isLeaf : Kd → Bool
  | .name => true | .field => true | .cls => true | .params => true | _ => false
def leafOk (P : Pl) (k : Kd) (d : D) : Bool :=
  if k = .params then namesD 0 3 d else nameD d && (if k = .field then P.fld (strOf d) else (decide (k = .name) || P.cls (strOf d)))
def stmtsM (ds : List D) (deep : Nat) (ret : Bool) : Option (List Wk) := if deep = 8 ∨ 12 < ds.length then none else some (ds.map fun d => ⟨.statement, d, deep + 1, ret, 0⟩)
def head (ds : List D) : Str := strOf (ds.headD .o)
def testsN (k : Kd) (tests : Nat) : Nat := if k = .test then tests + 1 else tests
def partsM (P : Pl) (k : Kd) (ds : List D) (deep : Nat) (ret : Bool) (tests : Nat) : Option (List Wk) :=
  match formOf k ds with
  | none => none
  | some fs => if ds.length ≠ 1 + fs.length ∨ 3 < testsN k tests then none else if mayS P (head ds) ret = true then some ((fs.zip ds.tail).map fun q => ⟨q.1, q.2, deep, ret, testsN k tests⟩) else none
def innerM (P : Pl) (it : Wk) : Option (List Wk) :=
  if isLeaf it.k = true then (if leafOk P it.k it.d = true then some [] else none) else
  match it.d with
  | .t ds => if it.k = .block then stmtsM ds it.deep it.ret else if it.k = .function then stmtsM ds it.deep true else if it.k = .things then (if 3 < ds.length then none else some (ds.map fun d => ⟨.simple, d, it.deep, it.ret, it.tests⟩)) else partsM P it.k ds it.deep it.ret it.tests
  | _ => none
def isum (l : List Wk) : Nat := (l.map fun j => sz j.d).sum
theorem isum_app (a b : List Wk) : isum (a ++ b) = isum a + isum b := by simp [isum]
theorem isum_map {ds : List D} {f : D → Wk} (h : ∀ d, (f d).d = d) : isum (ds.map f) = szs ds := by
  rw [szs_eq, isum, List.map_map]
  refine congrArg List.sum (List.map_congr_left fun d _ => ?_)
  show sz (f d).d = sz d
  rw [h]
theorem isum_zip {f : Kd × D → Wk} (h : ∀ q, (f q).d = q.2) : ∀ (fs : List Kd) (ds : List D), isum ((fs.zip ds).map f) ≤ szs ds
  | [], ds => Nat.zero_le _
  | _ :: _, [] => Nat.le_refl _
  | k :: fs, d :: ds => by
    have := isum_zip h fs ds
    have e : isum (((k :: fs).zip (d :: ds)).map f) = sz (f (k, d)).d + isum ((fs.zip ds).map f) := rfl
    rw [e, h]
    show sz d + _ ≤ sz d + szs ds
    omega
theorem inner_sz {P : Pl} {it : Wk} {l : List Wk} (h : innerM P it = some l) : isum l < sz it.d := by
  unfold innerM at h
  split at h
  · split at h
    · cases h
      exact sz_pos _
    · cases h
  · cases hd : it.d with
    | s x => rw [hd] at h; cases h
    | o => rw [hd] at h; cases h
    | t ds =>
      rw [hd] at h
      have st : ∀ (dp : Nat) (r : Bool), stmtsM ds dp r = some l → isum l < sz (.t ds) := fun dp r e => by
        unfold stmtsM at e
        split at e
        · cases e
        · cases e
          rw [isum_map fun d => rfl]
          show szs ds < szs ds + 1
          omega
      simp only at h
      split at h
      · exact st _ _ h
      · split at h
        · exact st _ _ h
        · split at h
          · split at h
            · cases h
            · cases h
              rw [isum_map fun d => rfl]
              show szs ds < szs ds + 1
              omega
          · unfold partsM at h
            split at h
            · cases h
            · rename_i fs _
              split at h
              · cases h
              · split at h
                · cases h
                  have q := isum_zip (f := fun q : Kd × D => (⟨q.1, q.2, it.deep, it.ret, testsN it.k it.tests⟩ : Wk)) (fun q => rfl) fs ds.tail
                  have : szs ds.tail ≤ szs ds := by
                    cases ds with
                    | nil => exact Nat.le_refl _
                    | cons d r => show szs r ≤ sz d + szs r; omega
                  show _ < szs ds + 1
                  omega
                · cases h
def okF (P : Pl) : Nat → Wk → Bool
  | 0, _ => false
  | n + 1, it => match innerM P it with
    | none => false
    | some l => l.all (okF P n)
theorem isum_mem {j : Wk} : ∀ {l : List Wk}, j ∈ l → sz j.d ≤ isum l
  | a :: r, h => by
    have e : isum (a :: r) = sz a.d + isum r := by simp [isum]
    rcases List.mem_cons.mp h with rfl | h
    · omega
    · have := isum_mem h
      omega
theorem isum_len : ∀ l : List Wk, l.length ≤ isum l
  | [] => Nat.le_refl _
  | a :: r => by
    have e : isum (a :: r) = sz a.d + isum r := by simp [isum]
    have := isum_len r
    have := sz_pos a.d
    rw [List.length_cons]
    omega
theorem all_same {l : List Wk} {f g : Wk → Bool} (h : ∀ j ∈ l, f j = g j) : l.all f = l.all g := by
  induction l with
  | nil => rfl
  | cons a r ih => rw [List.all_cons, List.all_cons, h a List.mem_cons_self, ih fun j hj => h j (List.mem_cons_of_mem _ hj)]
theorem okF_st {P : Pl} : ∀ (n m : Nat) (it : Wk), sz it.d ≤ n → sz it.d ≤ m → okF P n it = okF P m it
  | 0, _, it, h, _ => absurd (sz_pos it.d) (by omega)
  | _, 0, it, _, h => absurd (sz_pos it.d) (by omega)
  | n + 1, m + 1, it, h1, h2 => by
    unfold okF
    cases e : innerM P it with
    | none => rfl
    | some l =>
      have := inner_sz e
      exact all_same fun j hj => okF_st n m j (by have := isum_mem hj; omega) (by have := isum_mem hj; omega)
def okI (P : Pl) (it : Wk) : Bool := okF P (sz it.d) it
theorem okI_eq (P : Pl) (it : Wk) : okI P it = match innerM P it with
    | none => false
    | some l => l.all (okI P) := by
  have h := okF_st (P := P) (sz it.d) (sz it.d + 1) it (Nat.le_refl _) (Nat.le_succ _)
  unfold okI
  rw [h]
  show (match innerM P it with | none => false | some l => l.all (okF P (sz it.d))) = _
  cases e : innerM P it with
  | none => rfl
  | some l =>
    have := inner_sz e
    exact all_same fun j hj => okF_st _ _ j (by have := isum_mem hj; omega) (Nat.le_refl _)
/-- a block, as is_block says it -/
def okB (P : Pl) (d : D) : Bool := okI P ⟨.block, d, 0, P.im, 0⟩
/-! ### objects -/
def TStay (H H' : Hp) : Prop := ∀ (b : Addr) (t : List V), H b = some (.tup t) → H' b = some (.tup t)
theorem TStay.of {H H' : Hp} (e : Same H H') : TStay H H' := fun b t q => e b _ q
theorem TStay.lst {H H' : Hp} {D : Addr} {xs : List V} {o : HO} (e : TStay H H') (h : H' D = some (.lst xs)) : TStay H (upd H' D o) := fun b t q => by
  have q2 := e b t q
  by_cases hb : b = D
  · subst hb
    rw [h] at q2
    cases q2
  · rw [upd_ne hb]
    exact q2
theorem TStay.trans {H H' H2 : Hp} (e : TStay H H') (f : TStay H' H2) : TStay H H2 := fun b t q => f b t (e b t q)
section
variable {K : PySem.W.Frag}
def IRep (K : PySem.W.Frag) (H0 H : Hp) (it : Wk) (y : V) : Prop := ∃ (q sp : Addr) (x : V), y = .ref q ∧ H q = some (.tup [.str it.k.txt, x, .ref sp]) ∧ H sp = some (.tup [.int it.deep, .bl it.ret, .int it.tests]) ∧ Rep K H0 it.d x
theorem IRep.stay {H0 H H' : Hp} {it : Wk} {y : V} (h : IRep K H0 H it y) (e : TStay H H') : IRep K H0 H' it y := by
  obtain ⟨q, sp, x, a, b, c, d⟩ := h
  exact ⟨q, sp, x, a, e _ _ b, e _ _ c, d⟩
structure IReps (K : PySem.W.Frag) (H0 H : Hp) (its : List Wk) (ys : List V) : Prop where
  len : its.length = ys.length
  at_ : ∀ (i : Nat) (it : Wk) (y : V), its[i]? = some it → ys[i]? = some y → IRep K H0 H it y
theorem IReps.stay {H0 H H' : Hp} {its : List Wk} {ys : List V} (h : IReps K H0 H its ys) (e : TStay H H') : IReps K H0 H' its ys := ⟨h.len, fun i it y a b => (h.at_ i it y a b).stay e⟩
theorem IReps.app {H0 H : Hp} {a b : List Wk} {xs ys : List V} (h : IReps K H0 H a xs) (k : IReps K H0 H b ys) : IReps K H0 H (a ++ b) (xs ++ ys) := by
  refine ⟨by rw [List.length_append, List.length_append, h.len, k.len], fun i it y e1 e2 => ?_⟩
  by_cases hi : i < a.length
  · rw [List.getElem?_append_left hi] at e1
    rw [List.getElem?_append_left (by rw [← h.len]; exact hi)] at e2
    exact h.at_ i it y e1 e2
  · rw [List.getElem?_append_right (by omega)] at e1
    rw [List.getElem?_append_right (by rw [← h.len]; omega), ← h.len] at e2
    exact k.at_ _ it y e1 e2
/-- the last of them -/
theorem IReps.last {H0 H : Hp} {its : List Wk} {ys : List V} (h : IReps K H0 H its ys) (hn : ys ≠ []) : ∃ (its' : List Wk) (it : Wk) (y : V), its = its' ++ [it] ∧ ys[ys.length - 1]? = some y ∧ IReps K H0 H its' ys.dropLast ∧ IRep K H0 H it y := by
  have hl : its ≠ [] := fun e => hn (List.eq_nil_of_length_eq_zero (by rw [← h.len, e]; rfl))
  have hp : 0 < ys.length := List.length_pos_iff.mpr hn
  refine ⟨its.dropLast, its.getLast hl, ys.getLast hn, (List.dropLast_concat_getLast hl).symm, ?_, ⟨by rw [List.length_dropLast, List.length_dropLast, h.len], fun i it y a b => ?_⟩, ?_⟩
  · rw [List.getLast_eq_getElem]
    exact List.getElem?_eq_getElem _
  · obtain ⟨ha, ea⟩ := List.getElem?_eq_some_iff.mp a
    obtain ⟨hb, eb⟩ := List.getElem?_eq_some_iff.mp b
    rw [List.length_dropLast] at ha hb
    rw [List.getElem_dropLast] at ea eb
    exact h.at_ i it y (by rw [← ea]; exact List.getElem?_eq_getElem _) (by rw [← eb]; exact List.getElem?_eq_getElem _)
  · refine h.at_ (ys.length - 1) _ _ ?_ ?_
    · rw [List.getLast_eq_getElem, ← h.len]
      exact List.getElem?_eq_getElem _
    · rw [List.getLast_eq_getElem]
      exact List.getElem?_eq_getElem _
end
section
variable {K : PySem.W.Frag} {g : TG} {te : TE} {vs : List Nat} {σ : L2.St} {H1 : Hp} {D : Addr} {Qd : Hp → Prop} {J : It} {n : Nat} {G : Hp → Prop} {Y : Nat → Hp → V → Hp → Prop}
/-- a comprehension that makes an object a turn -/
theorem lc_rel (w : Walk J n G Y) (R : Nat → Hp → V → Prop) (mono : ∀ i y H H', TStay H H' → R i H y → R i H' y) (hz : n ≤ 1000) (hD : H1 D = none) (hG : ∀ H, Same H1 H → G H)
    (hs : ∀ (i : Nat) (x : V) (H H' : Hp), i < n → Same H1 H → Y i H x H' → ∀ QQ : VK, (∀ y H'', Same H H'' → R i H'' y → QQ y H'') → g x (wipe σ vs) H' fun σ2 H2 => wipe σ2 vs = wipe σ vs ∧ te σ2 H2 QQ)
    (hd : ∀ (H : Hp) (ys : List V), Same H1 H → H D = some (.lst ys) → ys.length = n → (∀ i y, ys[i]? = some y → R i H y) → Qd H) :
    ∃ W : Nat → Nat → Hp → Prop, (∃ m, W 0 m (upd H1 D (.lst []))) ∧ ∀ i m H, W i m H →
      (J.stop i H ∧ Qd H) ∨ (J.go i H ∧ ∃ Nx : Hp → Prop, (∀ H', Nx H' → ∃ m', m' < m ∧ W (i + 1) m' H') ∧ ∀ x H', J.yld i H x H' → g x (wipe σ vs) H' fun σ2 H2 => wipe σ2 vs = wipe σ vs ∧ tYes σ2 H2 fun b H3 =>
        if b = true then te σ2 H3 fun y H4 => ∃ acc, H4 D = some (.lst acc) ∧ acc.length < sizeLine ∧ Nx (upd H4 D (.lst (acc ++ [y]))) else Nx H3) := by
  refine lc_it w (fun k H => Same H1 H ∧ ∃ ys, H D = some (.lst ys) ∧ ys.length = k ∧ ∀ i y, ys[i]? = some y → R i H y) ⟨(Same.refl _).mt hD, [], upd_same, rfl, fun i y e => by simp at e⟩ (fun _ H _ h => hG H h.1) (fun k x H H' hk h hy => ?_) fun H ⟨s, ys, a, b, c⟩ => hd H ys s a b c
  obtain ⟨s, ys, hL, hl, hR⟩ := h
  refine hs k x H H' hk s hy _ fun y H'' sm r => ?_
  have e := sm _ _ hL
  refine ⟨_, e, ?_, (s.trans sm).mt hD, _, upd_same, by rw [List.length_append, hl]; rfl, fun i y' hi => ?_⟩
  · rw [hl, sizeLine_eq]
    omega
  · have ts : TStay H'' (upd H'' D (.lst (ys ++ [y]))) := (TStay.of (Same.refl H'')).lst e
    by_cases hik : i < ys.length
    · rw [List.getElem?_append_left hik] at hi
      exact mono _ _ _ _ ((TStay.of sm).trans ts) (hR i y' hi)
    · rw [List.getElem?_append_right (by omega)] at hi
      have h0 : i - ys.length = 0 := by
        have := (List.getElem?_eq_some_iff.mp hi).1
        have h1 : [y].length = 1 := rfl
        omega
      rw [h0] at hi
      obtain rfl : y = y' := by simpa using hi
      have : i = k := by omega
      subst this
      exact mono _ _ _ _ ts r
/-- .. that makes worklist items -/
theorem lc_its {H0 : Hp} {l : List Wk} (w : Walk J n G Y) (hl : l.length = n) (hz : n ≤ 1000) (hD : H1 D = none) (hG : ∀ H, Same H1 H → G H)
    (hs : ∀ (i : Nat) (it : Wk) (x : V) (H H' : Hp), l[i]? = some it → Same H1 H → Y i H x H' → ∀ QQ : VK, (∀ y H'', Same H H'' → IRep K H0 H'' it y → QQ y H'') → g x (wipe σ vs) H' fun σ2 H2 => wipe σ2 vs = wipe σ vs ∧ te σ2 H2 QQ)
    (hd : ∀ (H : Hp) (ys : List V), Same H1 H → H D = some (.lst ys) → IReps K H0 H l ys → Qd H) :
    ∃ W : Nat → Nat → Hp → Prop, (∃ m, W 0 m (upd H1 D (.lst []))) ∧ ∀ i m H, W i m H →
      (J.stop i H ∧ Qd H) ∨ (J.go i H ∧ ∃ Nx : Hp → Prop, (∀ H', Nx H' → ∃ m', m' < m ∧ W (i + 1) m' H') ∧ ∀ x H', J.yld i H x H' → g x (wipe σ vs) H' fun σ2 H2 => wipe σ2 vs = wipe σ vs ∧ tYes σ2 H2 fun b H3 =>
        if b = true then te σ2 H3 fun y H4 => ∃ acc, H4 D = some (.lst acc) ∧ acc.length < sizeLine ∧ Nx (upd H4 D (.lst (acc ++ [y]))) else Nx H3) := by
  refine lc_rel w (fun i H y => ∀ it, l[i]? = some it → IRep K H0 H it y) (fun i y H H' e h it hi => (h it hi).stay e) hz hD hG (fun i x H H' hi s hy QQ qq => ?_) fun H ys s hL hn hR => hd H ys s hL ⟨by omega, fun i it y e1 e2 => hR i y e2 it e1⟩
  have h2 : i < l.length := by omega
  exact hs i l[i] x H H' (List.getElem?_eq_getElem h2) s hy QQ fun y H'' sm r => qq y H'' sm fun it e => by
    rw [List.getElem?_eq_getElem h2] at e
    rw [← Option.some.inj e]
    exact r
end
end SF

set_option Elab.async false
set_option linter.all false
set_option maxRecDepth 100000
set_option maxHeartbeats 4000000
/-! programs: what is asked of classes -/
namespace SF
open PySem PySem.Spec PyProof.Rows L2 G0
open C8 (Cal Mak Met pe_c pe_mk pe_mt pe_mt0 pe_gc)
structure Cl where
  par : Option Str
  mark : Str
  flds : List (Str × D)
  mths : List (Str × D)
abbrev Cls8 := List (Str × Cl)
def optV : Option Str → V
  | none => .non
  | some z => .str z
/-- len of a dict, locked or not -/
def rLenR : List V → Hp → VK → Prop := fun xs H Q => ∃ a kvs, xs = [.ref a] ∧ Rd H a (.dK kvs) ∧ Q (.int (kvs.length : Nat)) H
theorem call_lenR {X : Cx} : CallR X (.builtin "len") rLenR := by
  intro pins s σ H xs us Q I r h
  obtain ⟨a, kvs, rfl, ha, q⟩ := h
  obtain ⟨u, rfl, ru⟩ := vals1 r
  cases ru
  exact d_len I ha fun t s' I' => ⟨.int kvs.length, H, I', ⟨t, rfl⟩, q⟩
/-! ### locks -/
/-- all stays, but dicts may be locked -/
def LK (H H' : Hp) : Prop := ∀ (b : Addr) (u : HO), H b = some u → H' b = some u ∨ ∃ (o : Obj) (kvs : List (Key × V)), u = .dK kvs ∧ H' b = some (.frz o (.dK kvs))
theorem LK.of {H H' : Hp} (e : Same H H') : LK H H' := fun b u q => .inl (e b u q)
theorem LK.lock {H : Hp} {a : Addr} {o : Obj} {kvs : List (Key × V)} (h : H a = some (.dK kvs)) : LK H (upd H a (.frz o (.dK kvs))) := fun b u q => by
  by_cases hb : b = a
  · subst hb
    rw [h] at q
    cases q
    exact .inr ⟨o, kvs, rfl, upd_same⟩
  · exact .inl (by rw [upd_ne hb]; exact q)
theorem LK.trans {H H' H2 : Hp} (e : LK H H') (f : LK H' H2) : LK H H2 := fun b u q => by
  rcases e b u q with h | ⟨o, kvs, rfl, h⟩
  · exact f b u h
  · rcases f b _ h with h2 | ⟨o2, kvs2, h2, _⟩
    · exact .inr ⟨o, kvs, rfl, h2⟩
    · cases h2
theorem LK.t {K : PySem.W.Frag} {H H' : Hp} {a : Addr} {xs : List V} (e : LK H H') (h : SqT K H a xs) : SqT K H' a xs := by
  rcases h with (h | ⟨o, h⟩) | h
  · rcases e _ _ h with h2 | ⟨_, _, z, _⟩
    · exact .inl (.inl h2)
    · cases z
  · rcases e _ _ h with h2 | ⟨_, _, z, _⟩
    · exact .inl (.inr ⟨o, h2⟩)
    · cases z
  · exact .inr h
theorem LK.rd {H H' : Hp} {a : Addr} {kvs : List (Key × V)} (e : LK H H') (h : Rd H a (.dK kvs)) : Rd H' a (.dK kvs) := by
  rcases h with h | ⟨o, h⟩
  · rcases e _ _ h with h2 | ⟨o, kvs2, z, h2⟩
    · exact .inl h2
    · cases z
      exact .inr ⟨o, h2⟩
  · rcases e _ _ h with h2 | ⟨_, _, z, _⟩
    · exact .inr ⟨o, h2⟩
    · cases z
section
variable {K : PySem.W.Frag} {H H' : Hp}
theorem LK.ty {v : V} {t : Value} (e : LK H H') (h : TyX K H v t) : TyX K H' v t := by
  have k : ∀ {b : Addr} {u : HO}, (∀ kvs, u ≠ .dK kvs) → H b = some u → H' b = some u := fun n q => by
    rcases e _ _ q with h | ⟨_, kvs, z, _⟩
    · exact h
    · exact absurd z (n kvs)
  cases h with
  | base b =>
    cases b with
    | non => exact .base .non
    | bl y => exact .base (.bl y)
    | int i => exact .base (.int i)
    | str y => exact .base (.str y)
    | flt y => exact .base (.flt y)
    | lst q => exact .base (.lst (k (fun _ z => by cases z) q))
    | frz q => exact .base (.frz (k (fun _ z => by cases z) q))
    | tup q => exact .base (.tup (k (fun _ z => by cases z) q))
    | dK q =>
      rcases e _ _ q with h | ⟨o, kvs, z, h⟩
      · exact .base (.dK h)
      · cases z
        exact .fDict h
    | dT q => exact .base (.dT (k (fun _ z => by cases z) q))
    | ins q a b c d f => exact .base (.ins (k (fun _ z => by cases z) q) a b c d f)
  | byt y => exact .byt y
  | set q => exact .set (k (fun _ z => by cases z) q)
  | kList q c => exact .kList q c
  | kTuple q c => exact .kTuple q c
  | kDict q c => exact .kDict q c
  | fTuple q => exact .fTuple (k (fun _ z => by cases z) q)
  | fDict q => exact .fDict (k (fun _ z => by cases z) q)
mutual
theorem Rep.lk (e : LK H H') : ∀ {d : D} {v : V}, Rep K H d v → Rep K H' d v
  | .s x, v, h => by
    unfold Rep at h ⊢
    exact h
  | .t ds, v, h => by
    unfold Rep at h ⊢
    obtain ⟨p, vs, e1, e2, e3⟩ := h
    exact ⟨p, vs, e1, e.t e2, Reps.lk e e3⟩
  | .o, v, h => by
    unfold Rep at h ⊢
    obtain ⟨T, t, z⟩ := h
    exact ⟨T, e.ty t, z⟩
theorem Reps.lk (e : LK H H') : ∀ {ds : List D} {vs : List V}, Reps K H ds vs → Reps K H' ds vs
  | [], vs, h => by
    unfold Reps at h ⊢
    exact h
  | d :: ds, vs, h => by
    unfold Reps at h ⊢
    obtain ⟨v, r, e1, e2, e3⟩ := h
    exact ⟨v, r, e1, Rep.lk e e2, Reps.lk e e3⟩
end
theorem reps_get : ∀ {ds : List D} {vs : List V} {i : Nat} {d : D} {v : V}, Reps K H ds vs → ds[i]? = some d → vs[i]? = some v → Rep K H d v := fun h e1 e2 => by
  obtain ⟨d', a, b⟩ := reps_at h e2
  rw [e1] at a
  rw [Option.some.inj a]
  exact b
end
/-! ### classes as they lie -/
structure DRep (K : PySem.W.Frag) (H : Hp) (kds : List (Str × D)) (kvs : List (Key × V)) : Prop where
  keys : kvs.map (·.1) = kds.map fun q => Sum.inr q.1
  vals : Reps K H (kds.map (·.2)) (kvs.map (·.2))
  small : ∀ q ∈ kds, q.1.length ≤ 1000
  few : kds.length ≤ 63
  nodup : (kds.map (·.1)).Nodup
theorem DRep.lk {K : PySem.W.Frag} {H H' : Hp} {kds : List (Str × D)} {kvs : List (Key × V)} (h : DRep K H kds kvs) (e : LK H H') : DRep K H' kds kvs := ⟨h.keys, h.vals.lk e, h.small, h.few, h.nodup⟩
theorem DRep.len {K : PySem.W.Frag} {H : Hp} {kds : List (Str × D)} {kvs : List (Key × V)} (h : DRep K H kds kvs) : kvs.length = kds.length := by
  have := congrArg List.length h.keys
  rwa [List.length_map, List.length_map] at this
theorem dkey {K : PySem.W.Frag} {H : Hp} {kds : List (Str × D)} {kvs : List (Key × V)} (h : DRep K H kds kvs) {i : Nat} {kv : Key × V} (e : kvs[i]? = some kv) {x : Str} (ex : kv.1 = .inr x) : x.length ≤ 1000 := by
  have e1 : (kvs.map (·.1))[i]? = some (.inr x) := by rw [List.getElem?_map, e, ← ex]; rfl
  rw [h.keys, List.getElem?_map] at e1
  obtain ⟨q, hq, e2⟩ := Option.map_eq_some_iff.mp e1
  cases e2
  exact h.small q (List.mem_of_getElem? hq)
theorem nt {b : Bool} (h : (!b) = true) : b = false := by cases b with | true => cases h | false => rfl
theorem nf {b : Bool} (h : ¬ (!b) = true) : b = true := by cases b with | true => rfl | false => exact absurd rfl h
def pLen : Option Str → Nat
  | none => 0
  | some z => z.length
/-- the class c, its dicts at fa, ma -/
structure CRep (K : PySem.W.Frag) (H : Hp) (c : Cl) (v : V) (fa ma : Addr) : Prop where
  ex : ∃ (p : Addr) (fk mk : List (Key × V)), v = .ref p ∧ SqT K H p [optV c.par, .str c.mark, .ref fa, .ref ma] ∧ H fa = some (.dK fk) ∧ DRep K H c.flds fk ∧ H ma = some (.dK mk) ∧ DRep K H c.mths mk ∧ pLen c.par ≤ 1000
theorem CRep.same {K : PySem.W.Frag} {H H' : Hp} {c : Cl} {v : V} {fa ma : Addr} (h : CRep K H c v fa ma) (e : Same H H') : CRep K H' c v fa ma := by
  obtain ⟨p, fk, mk, e1, e2, e3, e4, e5, e6, e7⟩ := h
  exact ⟨p, fk, mk, e1, same_t e e2, e _ _ e3, e4.lk (.of e), e _ _ e5, e6.lk (.of e), e7⟩
theorem CRep.lock {K : PySem.W.Frag} {H : Hp} {c : Cl} {v : V} {fa ma a : Addr} {o : Obj} {kvs : List (Key × V)} (h : CRep K H c v fa ma) (ha : H a = some (.dK kvs)) (h1 : fa ≠ a) (h2 : ma ≠ a) : CRep K (upd H a (.frz o (.dK kvs))) c v fa ma := by
  obtain ⟨p, fk, mk, e1, e2, e3, e4, e5, e6, e7⟩ := h
  have l := LK.lock (o := o) ha
  exact ⟨p, fk, mk, e1, l.t e2, by rw [upd_ne h1]; exact e3, e4.lk l, by rw [upd_ne h2]; exact e5, e6.lk l, e7⟩
/-- the classes, in the dict at a -/
structure CsRep (K : PySem.W.Frag) (H : Hp) (rows : Cls8) (a : Addr) (kvs : List (Key × V)) : Prop where
  keys : kvs.map (·.1) = rows.map fun q => Sum.inr q.1
  at_ : ∀ (i : Nat) (r : Str × Cl) (kv : Key × V), rows[i]? = some r → kvs[i]? = some kv → ∃ fa ma, CRep K H r.2 kv.2 fa ma ∧ fa ≠ a ∧ ma ≠ a
  small : ∀ q ∈ rows, q.1.length ≤ 1000
  few : rows.length ≤ 63
  nodup : (rows.map (·.1)).Nodup
theorem CsRep.same {K : PySem.W.Frag} {H H' : Hp} {rows : Cls8} {a : Addr} {kvs : List (Key × V)} (h : CsRep K H rows a kvs) (e : Same H H') : CsRep K H' rows a kvs :=
  ⟨h.keys, fun i r kv e1 e2 => let ⟨fa, ma, c, x, y⟩ := h.at_ i r kv e1 e2; ⟨fa, ma, c.same e, x, y⟩, h.small, h.few, h.nodup⟩
theorem CsRep.lock {K : PySem.W.Frag} {H : Hp} {rows : Cls8} {a : Addr} {kvs : List (Key × V)} {o : Obj} (h : CsRep K H rows a kvs) (ha : H a = some (.dK kvs)) : CsRep K (upd H a (.frz o (.dK kvs))) rows a kvs :=
  ⟨h.keys, fun i r kv e1 e2 => let ⟨fa, ma, c, x, y⟩ := h.at_ i r kv e1 e2; ⟨fa, ma, c.lock ha x y, x, y⟩, h.small, h.few, h.nodup⟩
theorem CsRep.len {K : PySem.W.Frag} {H : Hp} {rows : Cls8} {a : Addr} {kvs : List (Key × V)} (h : CsRep K H rows a kvs) : kvs.length = rows.length := by
  have := congrArg List.length h.keys
  rwa [List.length_map, List.length_map] at this
theorem find_map {α β : Type} {f : α → Str} : ∀ {rows : List α} {kvs : List (Key × β)} {z : Str}, kvs.map (·.1) = rows.map (fun q => (Sum.inr (f q) : Key)) →
    (rows.find? (fun q => decide (f q = z)) = none ∧ kvs.find? (fun kv => decide (kv.1 = Sum.inr z)) = none) ∨ ∃ (i : Nat) (r : α) (kv : Key × β), rows[i]? = some r ∧ kvs[i]? = some kv ∧ f r = z ∧ kv.1 = Sum.inr z ∧ rows.find? (fun q => decide (f q = z)) = some r ∧ kvs.find? (fun kv => decide (kv.1 = Sum.inr z)) = some kv
  | [], [], z, _ => .inl ⟨rfl, rfl⟩
  | r :: rows, kv :: kvs, z, h => by
    have h1 : kv.1 = Sum.inr (f r) := by simpa using (List.cons.inj h).1
    have h2 : kvs.map (·.1) = rows.map (fun q => (Sum.inr (f q) : Key)) := (List.cons.inj h).2
    by_cases e : f r = z
    · refine .inr ⟨0, r, kv, rfl, rfl, e, by rw [h1, e], ?_, ?_⟩
      · rw [List.find?_cons_of_pos (by simpa using e)]
      · rw [List.find?_cons_of_pos (by simp [h1, e])]
    · rw [List.find?_cons_of_neg (by simpa using e), List.find?_cons_of_neg (by simp [h1, e])]
      rcases find_map (z := z) h2 with h3 | ⟨i, r', kv', a, b, c, d, e1, e2⟩
      · exact .inl h3
      · exact .inr ⟨i + 1, r', kv', by simpa using a, by simpa using b, c, d, e1, e2⟩
  | [], _ :: _, _, h => by simp at h
  | _ :: _, [], _, h => by simp at h
def rowAt (rows : Cls8) (z : Str) : Option Cl := (rows.find? fun q => decide (q.1 = z)).map (·.2)
def hasKey (kds : List (Str × D)) (z : Str) : Bool := (kds.find? fun q => decide (q.1 = z)).isSome
/-- looked up by name -/
theorem CsRep.look {K : PySem.W.Frag} {H : Hp} {rows : Cls8} {a : Addr} {kvs : List (Key × V)} (h : CsRep K H rows a kvs) (z : Str) :
    (rowAt rows z = none ∧ valV kvs (Sum.inr z : Key) = none) ∨ ∃ c v fa ma, rowAt rows z = some c ∧ valV kvs (Sum.inr z : Key) = some v ∧ CRep K H c v fa ma ∧ fa ≠ a ∧ ma ≠ a := by
  unfold rowAt valV
  rcases find_map (z := z) h.keys with ⟨h1, h2⟩ | ⟨i, r, kv, h1, h2, _, _, h3, h4⟩
  · exact .inl ⟨by rw [h1]; rfl, by rw [h2]; rfl⟩
  · obtain ⟨fa, ma, c, x, y⟩ := h.at_ i r kv h1 h2
    exact .inr ⟨r.2, kv.2, fa, ma, by rw [h3]; rfl, by rw [h4]; rfl, c, x, y⟩
theorem DRep.look {K : PySem.W.Frag} {H : Hp} {kds : List (Str × D)} {kvs : List (Key × V)} (h : DRep K H kds kvs) (z : Str) : (valV kvs (Sum.inr z : Key)).isSome = hasKey kds z ∧
    ∀ v, valV kvs (Sum.inr z : Key) = some v → ∃ q ∈ kds, q.1 = z ∧ Rep K H q.2 v := by
  unfold hasKey valV
  rcases find_map (z := z) h.keys with ⟨h1, h2⟩ | ⟨i, r, kv, h1, h2, h5, h6, h3, h4⟩
  · rw [h2]
    refine ⟨?_, fun v e => by cases e⟩
    rw [h1] <;> rfl
  · rw [h4]
    refine ⟨?_, fun v e => ⟨r, List.mem_of_getElem? h1, h5, ?_⟩⟩
    · rw [h3] <;> rfl
    · obtain rfl := Option.some.inj e
      exact reps_get h.vals (by rw [List.getElem?_map, h1]; rfl) (by rw [List.getElem?_map, h2]; rfl)
/-! ### what is asked -/
def methB : D → Bool
  | .t [a, _] => namesD 0 3 a
  | _ => false
def fieldsB (l : List (Str × D)) : Bool := decide (l.length ≤ 3) && (l.all (fun q => nameS q.1) && l.all fun q => namesD 1 4 q.2)
def methsB (l : List (Str × D)) : Bool := decide (l.length ≤ 5) && (l.all (fun q => nameS q.1) && l.all fun q => methB q.2)
def parB : Option Str → Bool
  | none => true
  | some z => nameS z
def markB (m : Str) : Bool := decide (("open" : Str) = m) || decide (("closed" : Str) = m)
def classB (c : Cl) : Bool := parB c.par && (markB c.mark && (fieldsB c.flds && methsB c.mths))
def amongB (rows : Cls8) (c : Cl) : Bool := match c.par with
  | none => true
  | some z => match rowAt rows z with
    | none => false
    | some e => decide (e.mark = ("open" : Str))
def up (rows : Cls8) : Option Str → Option Str
  | none => none
  | some z => (rowAt rows z).bind (·.par)
def climb (rows : Cls8) : Nat → Option Str → Option Str
  | 0, o => o
  | n + 1, o => up rows (climb rows n o)
def ringB (rows : Cls8) : Bool := rows.any fun r => (climb rows rows.length (some r.1)).isSome
def classesB (rows : Cls8) : Bool := (decide (rows.length ≤ 8) && rows.all fun r => nameS r.1) && ((rows.all fun r => classB r.2) && ((rows.all fun r => amongB rows r.2) && !ringB rows))
theorem mark_in (m : Str) : inV (.str m) [.str "open", .str "closed"] = markB m := by
  show (eqV (.str "open") (.str m) || (eqV (.str "closed") (.str m) || false)) = _
  rw [Bool.or_false]
  rfl
theorem DGet_rd {H : Hp} {a : Addr} {kvs : List (Key × V)} {z : Str} (h : Rd H a (.dK kvs)) : DGet H a (.str z) (valV kvs (Sum.inr z : Key)) := .inl ⟨kvs, Sum.inr z, h, rfl, rfl⟩
theorem nameKs_eq {α : Type} {f : α → Str} {most : Nat} {rows : List α} {kvs : List (Key × V)} (h : kvs.map (·.1) = rows.map fun q => (Sum.inr (f q) : Key)) : nameKs most kvs = (decide (rows.length ≤ most) && rows.all fun q => nameS (f q)) := by
  have hl : kvs.length = rows.length := by
    have := congrArg List.length h
    rwa [List.length_map, List.length_map] at this
  have e1 : (kvs.all fun kv => nameK kv.1) = (kvs.map (·.1)).all nameK := by rw [List.all_map]; rfl
  unfold nameKs
  rw [hl, e1, h, List.all_map]
  rfl
def spMeth (K : PySem.W.Frag) : Sp := fun vs H Q _ => ∃ (d : D) (v : V), vs = [v] ∧ Rep K H d v ∧ ∀ H', Same H H' → Q (.bl (methB d)) H'
def spDict (K : PySem.W.Frag) (ok : List (Str × D) → Bool) : Sp := fun vs H Q _ => ∃ (a : Addr) (kds : List (Str × D)) (kvs : List (Key × V)), vs = [.ref a] ∧ H a = some (.dK kvs) ∧ DRep K H kds kvs ∧ ∀ H', Same H H' → Q (.bl (ok kds)) H'
def spClass (K : PySem.W.Frag) : Sp := fun vs H Q _ => ∃ (c : Cl) (v : V) (fa ma : Addr), vs = [v] ∧ CRep K H c v fa ma ∧ ∀ H', Same H H' → Q (.bl (classB c)) H'
def spAmong (K : PySem.W.Frag) : Sp := fun vs H Q _ => ∃ (c : Cl) (v : V) (fa ma a : Addr) (rows : Cls8) (kvs : List (Key × V)), vs = [v, .ref a] ∧ CRep K H c v fa ma ∧ Rd H a (.dK kvs) ∧ CsRep K H rows a kvs ∧ Q (.bl (amongB rows c)) H
def spRing (K : PySem.W.Frag) : Sp := fun vs H Q _ => ∃ (a : Addr) (rows : Cls8) (kvs : List (Key × V)), vs = [.ref a] ∧ H a = some (.dK kvs) ∧ CsRep K H rows a kvs ∧ (rows.all fun r => amongB rows r.2) = true ∧ ∀ H', Same H H' → Q (.bl (ringB rows)) H'
theorem rowAt_mem {rows : Cls8} {z : Str} {c : Cl} (h : rowAt rows z = some c) : ∃ r ∈ rows, r.1 = z ∧ r.2 = c := by
  unfold rowAt at h
  obtain ⟨r, h1, h2⟩ := Option.map_eq_some_iff.mp h
  exact ⟨r, List.mem_of_find?_eq_some h1, by simpa using List.find?_some h1, h2⟩
theorem rowAt_of {rows : Cls8} {r : Str × Cl} (h : r ∈ rows) : (rowAt rows r.1).isSome = true := by
  unfold rowAt
  rw [Option.isSome_map, List.find?_isSome]
  exact ⟨r, h, by simp⟩
/-- from a class on, all parents are there -/
theorem climb_in {rows : Cls8} (hA : (rows.all fun r => amongB rows r.2) = true) {z0 : Str} (h0 : (rowAt rows z0).isSome = true) : ∀ (n : Nat) (z : Str), climb rows n (some z0) = some z → (rowAt rows z).isSome = true
  | 0, z, h => by
    have : z0 = z := Option.some.inj h
    rw [← this]
    exact h0
  | n + 1, z, h => by
    have h1 : up rows (climb rows n (some z0)) = some z := h
    cases e : climb rows n (some z0) with
    | none => rw [e] at h1; cases h1
    | some y =>
      rw [e] at h1
      have h2 : (rowAt rows y).bind (·.par) = some z := h1
      cases e2 : rowAt rows y with
      | none => rw [e2] at h2; cases h2
      | some c =>
        rw [e2] at h2
        have h3 : c.par = some z := h2
        obtain ⟨r, hr, _, e3⟩ := rowAt_mem e2
        have h4 := List.all_eq_true.mp hA r hr
        rw [e3] at h4
        unfold amongB at h4
        rw [h3] at h4
        dsimp only at h4
        cases e5 : rowAt rows z with
        | none => rw [e5] at h4; cases h4
        | some _ => rfl
/-! ### the first bad method -/
def plOf (rows : Cls8) (c : Cl) : Pl := ⟨fun z => (rowAt rows z).isSome, hasKey c.flds, true, c.par.isSome⟩
def plBody (rows : Cls8) : Pl := ⟨fun z => (rowAt rows z).isSome, fun _ => false, false, false⟩
def blkOf : D → D
  | .t [_, b] => b
  | _ => .o
def badM (rows : Cls8) (c : Cl) (m : D) : Bool := !okB (plOf rows c) (blkOf m)
def Clean (rows : Cls8) (c : Cl) : Prop := ∀ m ∈ c.mths, badM rows c m.2 = false
structure First (rows : Cls8) (row : Str × Cl) (m : Str × D) : Prop where
  mem : row ∈ rows
  mth : m ∈ row.2.mths
  bad : badM rows row.2 m.2 = true
  names : ∃ (ns : List Str) (i : Nat), ns.Perm (rows.map (·.1)) ∧ sortedS ns = true ∧ ns[i]? = some row.1 ∧ ∀ (j : Nat) (row' : Str × Cl), j < i → row' ∈ rows → ns[j]? = some row'.1 → Clean rows row'.2
  meths : ∃ (ms : List Str) (i : Nat), ms.Perm (row.2.mths.map (·.1)) ∧ sortedS ms = true ∧ ms[i]? = some m.1 ∧ ∀ (j : Nat) (m' : Str × D), j < i → m' ∈ row.2.mths → ms[j]? = some m'.1 → badM rows row.2 m'.2 = false
inductive WR (rows : Cls8) (body : D) : Option Str → Prop
  | cls (h : classesB rows = false) : WR rows body (some "classes")
  | meth (h : classesB rows = true) (row : Str × Cl) (m : Str × D) (f : First rows row m) : WR rows body (some (((Str.empty ++ row.1) ++ ".") ++ m.1))
  | body (h : classesB rows = true) (c : ∀ row ∈ rows, Clean rows row.2) (b : okB (plBody rows) body = false) : WR rows body (some "body")
  | good (h : classesB rows = true) (c : ∀ row ∈ rows, Clean rows row.2) (b : okB (plBody rows) body = true) : WR rows body none
structure Sizes (rows : Cls8) (body : D) : Prop where
  m : ∀ row ∈ rows, ∀ m ∈ row.2.mths, sz (blkOf m.2) ≤ 100000
  b : sz body ≤ 100000
def spWrong (K : PySem.W.Frag) : Sp := fun vs H Q _ => ∃ (a : Addr) (rows : Cls8) (kvs : List (Key × V)) (vb : V) (body : D), vs = [.ref a, vb] ∧ H a = some (.dK kvs) ∧ CsRep K H rows a kvs ∧ Rep K H body vb ∧ Sizes rows body ∧ ∀ (r : Option Str) (H' : Hp), WR rows body r → Same H H' → Q (optV r) H'
theorem same_key {α : Type} : ∀ {l : List (Str × α)} {x y : Str × α}, (l.map (·.1)).Nodup → x ∈ l → y ∈ l → x.1 = y.1 → x = y
  | [], x, y, _, h, _, _ => by cases h
  | a :: r, x, y, hn, hx, hy, e => by
    rw [List.map_cons, List.nodup_cons] at hn
    rcases List.mem_cons.mp hx with e1 | hx
    · rcases List.mem_cons.mp hy with e2 | hy
      · rw [e1, e2]
      · exact absurd (List.mem_map_of_mem (f := (·.1)) hy) (by rw [← e, e1]; exact hn.1)
    · rcases List.mem_cons.mp hy with e2 | hy
      · exact absurd (List.mem_map_of_mem (f := (·.1)) hx) (by rw [e, e2]; exact hn.1)
      · exact same_key hn.2 hx hy e
end SF

set_option Elab.async false
set_option linter.all false
set_option maxRecDepth 100000
set_option maxHeartbeats 4000000
namespace RD
open PySem PySem.Spec PyProof.Rows L2 G0
section
variable {σ : L2.St} {H : Hp} {Q : VK} {K : PySem.W.Frag} {w : World}
theorem inT {x : V} {p : Addr} {xs : List V} (h : SqT K H p xs) (fx : flatV x = true) (fs : xs.all flatV = true) (q : Q (.bl (inV x xs)) H) : rIn K false x (.ref p) H Q := ⟨p, xs, rfl, .inr h, fx, fs, q⟩
theorem kget {td ty : TE} (h : td σ H fun x H1 => ∃ p, x = .ref p ∧ KD K w p ∧ ty σ H1 fun y H2 => ∃ z r, y = .str z ∧ PySem.W.nsIn K p z = some r ∧ (∀ u, r = some u → ∃ v, RelV v u ∧ Q v H2) ∧ (r = none → Q .non H2)) : tKGet K w td ty σ H Q := h
theorem izip {t : TA} {R : It → Hp → Prop} (h : t σ H fun vs H1 => ∃ a b xs ys, vs = [.ref a, .ref b] ∧ ((SqL K H1 a xs ∧ SqL K H1 b ys ∧ R (Itz K a b) H1) ∨ (SqT K H1 a xs ∧ SqT K H1 b ys ∧ R (RZ.ItzT K a b) H1))) : RZ.iZipA K t σ H R := h
theorem sfld {ta tv : TE} {f : Str} {nx : L2.St → Hp → Prop} {rt : VK} {bk ct : L2.St → Hp → Prop} (h : tv σ H fun y H1 => ta σ H1 fun x H2 => ∃ a C dx fs, x = .ref a ∧ H2 a = some (.ins C dx fs) ∧ Cls K C ∧ NoAttr K C f ∧ fs.length < 1000 ∧ nx σ (upd H2 a (.ins C dx (putF f y fs)))) : sFld K ta tv f ⟨nx, rt, bk, ct⟩ σ H := h
end
end RD
namespace SF
open PySem PySem.Spec PyProof.Rows L2 G0
open C8 (Cal Mak Met pe_c pe_mk pe_mt pe_mt0 pe_gc)
structure PlC (K : PySem.W.Frag) (C : Addr) : Prop where
  cl : Cls K C
  n1 : NoAttr K C "new_classes"
  n2 : NoAttr K C "own_fields"
  n3 : NoAttr K C "in_method"
  n4 : NoAttr K C "has_parent"
def plF (nc ow : Addr) (im hp : Bool) : List (Str × V) := [("new_classes", .ref nc), ("own_fields", .ref ow), ("in_method", .bl im), ("has_parent", .bl hp)]
def DMem (H : Hp) (a : Addr) (f : Str → Bool) : Prop := ∃ kvs, H a = some (.dK kvs) ∧ ∀ z : Str, (valV kvs (Sum.inr z : Key)).isSome = f z
theorem DMem.same {H H' : Hp} {a : Addr} {f : Str → Bool} (e : Same H H') (h : DMem H a f) : DMem H' a f := by
  obtain ⟨kvs, h1, h2⟩ := h
  exact ⟨kvs, e _ _ h1, h2⟩
def PlO (C : Addr) (H : Hp) (pl : Addr) (P : Pl) : Prop := ∃ (dx nc ow : Addr), H pl = some (.ins C dx (plF nc ow P.im P.hp)) ∧ DMem H nc P.cls ∧ DMem H ow P.fld
theorem PlO.same {C : Addr} {H H' : Hp} {pl : Addr} {P : Pl} (e : Same H H') (h : PlO C H pl P) : PlO C H' pl P := by
  obtain ⟨dx, nc, ow, a, b, c⟩ := h
  exact ⟨dx, nc, ow, e _ _ a, b.same e, c.same e⟩
def kTx (fs : List Kd) : List V := fs.map fun k => V.str k.txt
/-- a written table of forms -/
structure FTab (K : PySem.W.Frag) (w : World) (mg : Str → Option Value) (x : Str) (tab : Tab) : Prop where
  ex : ∃ p, mg x = some (.ref p) ∧ KD K w p ∧ ∀ z : Str, match tab.lookup z with
    | none => PySem.W.nsIn K p z = some none
    | some fs => ∃ t : Addr, PySem.W.nsIn K p z = some (some (.ref t)) ∧ ∀ H, SqT K H t (kTx fs)
theorem sl1 {x : V} : [x].length ≤ sizeLine := by show 1 ≤ sizeLine; decide
theorem sl2 {x y : V} : [x, y].length ≤ sizeLine := by show 2 ≤ sizeLine; decide
theorem sl3 {x y z : V} : [x, y, z].length ≤ sizeLine := by show 3 ≤ sizeLine; decide
theorem sl4 {x y z u : V} : [x, y, z, u].length ≤ sizeLine := by show 4 ≤ sizeLine; decide
theorem at0 {x : V} {r : List V} : atI (x :: r) 0 = some x := atI_nat (xs := x :: r) (j := 0) rfl
theorem at1 {x y : V} {r : List V} : atI (x :: y :: r) 1 = some y := atI_nat (xs := x :: y :: r) (j := 1) rfl
theorem at3 {x y z u : V} {r : List V} : atI (x :: y :: z :: u :: r) 3 = some u := atI_nat (xs := x :: y :: z :: u :: r) (j := 3) rfl
theorem cut1 {x : V} {r : List V} : cutV (x :: r) (some 1) none = r := by
  unfold cutV
  have e1 : HT.sIx (x :: r).length 0 (some 1) = 1 := by
    have e2 : HT.sIx (x :: r).length 0 (some 1) = min 1 (x :: r).length := HT.sIx_nat _ _ 1
    rw [e2, List.length_cons]
    omega
  rw [HT.sIx_none, e1]
  show (r.take _) = r
  rw [List.length_cons]
  exact List.take_of_length_le (by omega)
theorem look_le {z : Str} {fs : List Kd} : ∀ {tab : Tab}, (tab.all fun q => decide (q.2.length ≤ 3)) = true → tab.lookup z = some fs → fs.length ≤ 3
  | [], _, h => by cases h
  | (a, b) :: r, hl, h => by
    rw [List.all_cons, Bool.and_eq_true] at hl
    rw [List.lookup_cons] at h
    split at h
    · rw [← Option.some.inj h]
      exact of_decide_eq_true hl.1
    · exact look_le hl.2 h
theorem form_le {k : Kd} {ds : List D} {fs : List Kd} (h : formOf k ds = some fs) : fs.length ≤ 3 := by
  have s1 : ∀ z, tSim.lookup z = some fs → fs.length ≤ 3 := fun z => look_le (by decide)
  cases ds with
  | nil => cases h
  | cons d r =>
    cases d with
    | t _ => cases h
    | o => cases h
    | s z =>
      have h2 : formW k z = some fs := h
      cases k with
      | statement => exact look_le (by decide) h2
      | test => exact look_le (by decide) h2
      | right =>
        have h3 : (if (tCalls.lookup z).isSome = true then tCalls.lookup z else tSim.lookup z) = some fs := h2
        split at h3
        · exact look_le (by decide) h3
        · exact s1 z h3
      | _ => exact s1 z h2
theorem kget_go {K : PySem.W.Frag} {H : Hp} {Q : VK} {p : Addr} {tab : Tab} {z : Str} (l : match tab.lookup z with
    | none => PySem.W.nsIn K p z = some none
    | some fs => ∃ t : Addr, PySem.W.nsIn K p z = some (some (.ref t)) ∧ ∀ H, SqT K H t (kTx fs))
    (q : match tab.lookup z with
    | none => Q .non H
    | some fs => ∀ t, (∀ H', SqT K H' t (kTx fs)) → Q (.ref t) H) :
    ∃ z' r, V.str z = .str z' ∧ PySem.W.nsIn K p z' = some r ∧ (∀ u, r = some u → ∃ v, RelV v u ∧ Q v H) ∧ (r = none → Q .non H) := by
  cases e : tab.lookup z with
  | none =>
    rw [e] at l q
    exact ⟨z, none, rfl, l, fun u h => (nomatch h), fun _ => q⟩
  | some fs =>
    rw [e] at l q
    obtain ⟨t, l, ht⟩ := l
    exact ⟨z, _, rfl, l, fun u h => ⟨.ref t, by cases h; rfl, q t ht⟩, fun h => (nomatch h)⟩
theorem kd_in : ∀ k : Kd, inV (.str k.txt) [.str "name", .str "field", .str "class", .str "params"] = isLeaf k := by
  intro k; cases k <;> decide +kernel
theorem kd_eq (k j : Kd) : decide (k.txt = j.txt) = decide (k = j) := by
  revert k j
  intro k j
  cases k <;> cases j <;> decide +kernel
def spPlace (C : Addr) : Sp := fun vs H Q _ => ∃ (x dx nc ow : Addr) (im hp : Bool), vs = [.ref x, .ref nc, .ref ow, .bl im, .bl hp] ∧ H x = some (.ins C dx []) ∧ ∀ H', (∀ b, b ≠ x → H' b = H b) → H' x = some (.ins C dx (plF nc ow im hp)) → Q .non H'
def spMay (C : Addr) : Sp := fun vs H Q _ => ∃ (z : Str) (ret : Bool) (pl : Addr) (P : Pl), vs = [.str z, .bl ret, .ref pl] ∧ PlO C H pl P ∧ Q (.bl (mayS P z ret)) H
def spForm (K : PySem.W.Frag) : Sp := fun vs H Q _ => ∃ (k : Kd) (p : Addr) (xs : List V) (ds : List D) (H0 : Hp), vs = [.str k.txt, .ref p] ∧ SqT K H p xs ∧ Reps K H0 ds xs ∧ Same H0 H ∧
  (match formOf k ds with
    | none => Q .non H
    | some fs => ∀ t, (∀ H', SqT K H' t (kTx fs)) → Q (.ref t) H)
def spLeaf (K : PySem.W.Frag) (C : Addr) : Sp := fun vs H Q _ => ∃ (k : Kd) (d : D) (v : V) (pl : Addr) (P : Pl), vs = [.str k.txt, v, .ref pl] ∧ isLeaf k = true ∧ Rep K H d v ∧ PlO C H pl P ∧ ∀ H', Same H H' → Q (.bl (leafOk P k d)) H'
def RetI (K : PySem.W.Frag) (H0 H : Hp) (Q : VK) (o : Option (List Wk)) : Prop := match o with
  | none => ∀ H', Same H H' → Q .non H'
  | some l => ∀ (H' : Hp) (L : Addr) (ys : List V), Same H H' → H L = none → H' L = some (.lst ys) → IReps K H0 H' l ys → Q (.ref L) H'
def spStm (K : PySem.W.Frag) : Sp := fun vs H Q _ => ∃ (p sp : Addr) (xs : List V) (ds : List D) (H0 : Hp) (deep tests : Nat) (ret : Bool), vs = [.ref p, .ref sp] ∧ SqT K H p xs ∧ Reps K H0 ds xs ∧ Same H0 H ∧
  H sp = some (.tup [.int deep, .bl ret, .int tests]) ∧ RetI K H0 H Q (stmtsM ds deep ret)
def spParts (K : PySem.W.Frag) (C : Addr) : Sp := fun vs H Q _ => ∃ (k : Kd) (p sp pl : Addr) (xs : List V) (ds : List D) (H0 : Hp) (deep tests : Nat) (ret : Bool) (P : Pl), vs = [.str k.txt, .ref p, .ref sp, .ref pl] ∧ SqT K H p xs ∧ Reps K H0 ds xs ∧ Same H0 H ∧
  H sp = some (.tup [.int deep, .bl ret, .int tests]) ∧ PlO C H pl P ∧ RetI K H0 H Q (partsM P k ds deep ret tests)
def spInner (K : PySem.W.Frag) (C : Addr) : Sp := fun vs H Q _ => ∃ (it : Wk) (v : V) (sp pl : Addr) (H0 : Hp) (P : Pl), vs = [.str it.k.txt, v, .ref sp, .ref pl] ∧ Rep K H0 it.d v ∧ Same H0 H ∧
  H sp = some (.tup [.int it.deep, .bl it.ret, .int it.tests]) ∧ PlO C H pl P ∧ RetI K H0 H Q (innerM P it)
def spBlock (K : PySem.W.Frag) (C : Addr) : Sp := fun vs H Q _ => ∃ (d : D) (v : V) (pl : Addr) (P : Pl), vs = [v, .ref pl] ∧ Rep K H d v ∧ PlO C H pl P ∧ sz d ≤ 100000 ∧ ∀ H', Same H H' → Q (.bl (okB P d)) H'
section
variable {P : Program} {w : World} {K : PySem.W.Frag} {mg : Str → Option Value} {base : Heap} {C : Addr}
local macro_rules | `(tactic| walk_at "rd1") => `(tactic| first
  | (with_reducible refine RD.seq ?_) | (with_reducible refine RD.next ?_) | (with_reducible refine RD.ifS ?_) | (with_reducible refine RD.ret ?_) | (with_reducible refine RD.retN ?_) | (with_reducible refine RD.drop ?_) | (with_reducible refine RD.asg ?_) | (with_reducible refine RD.gname ?_)
  | ((with_reducible apply RD.var); exact rfl) | (with_reducible refine RD.c_ ?_) | (with_reducible refine RD.op ?_) | (with_reducible refine RD.un ?_) | (with_reducible refine RD.cb ?_) | (with_reducible refine RD.cons ?_) | (with_reducible refine RD.nil ?_) | (with_reducible refine RD.tup ?_) | (with_reducible refine RD.lst ?_)
  | (with_reducible refine RD.B_ ?_) | (with_reducible refine RD.test ?_) | (with_reducible refine RD.exB ?_) | (with_reducible refine RD.exI ?_) | (with_reducible refine RD.and_ ?_) | (with_reducible refine RD.or_ ?_) | (with_reducible refine RD.not_ ?_) | (with_reducible refine RD.andV ?_) | (with_reducible refine RD.orV ?_) | (with_reducible refine RD.notV ?_) | (with_reducible refine RD.if_ ?_)
  | (with_reducible refine RD.ifT ?_) | (with_reducible refine RD.ifF ?_) | (with_reducible refine RD.ifNT ?_) | (with_reducible refine RD.ifNF ?_) | (with_reducible refine RD.yes ?_) | (with_reducible refine RD.sl ?_) | (with_reducible refine RD.noPart ?_) | (with_reducible refine RD.part ?_) | (with_reducible refine RD.i0 ?_) | (with_reducible refine RD.eqS ?_) | (with_reducible refine RD.eqI ?_) | (with_reducible refine RD.neS ?_) | (with_reducible refine RD.neI ?_)
  | (with_reducible refine RD.isN_n ?_) | (with_reducible refine RD.isN_r ?_) | (with_reducible refine RD.isN_s ?_) | (with_reducible refine RD.isN_b ?_) | (with_reducible refine RD.isN_i ?_) | (with_reducible refine RD.notN_n ?_) | (with_reducible refine RD.notN_r ?_) | (with_reducible refine RD.notN_s ?_)
  | (with_reducible refine RD.call ?_) | (with_reducible refine RD.make ?_) | (with_reducible refine RD.gcons ?_) | (with_reducible refine RD.gnil ?_) | (with_reducible refine RD.bm ?_) | (with_reducible refine RD.bm0 ?_) | (with_reducible refine RD.dget ?_) | (with_reducible refine RD.din ?_) | (with_reducible refine RD.tfld ?_) | (with_reducible refine RD.then_ ?_) | (with_reducible refine RD.chain ?_) | (with_reducible refine RD.itup ?_) | (with_reducible refine RD.ikeys ?_) | (with_reducible refine RD.ivals ?_) | (with_reducible refine RD.iitems ?_) | (with_reducible refine RD.lset ?_) | (with_reducible refine RD.ilist ?_) | ((with_reducible apply RD.aug); exact rfl))
local macro_rules | `(tactic| walk_at "rd") => `(tactic| repeat walk_at "rd1")

theorem sc_Place___init__ : FnScope ["self", "new_classes", "own_fields", "in_method", "has_parent"] ["self", "new_classes", "own_fields", "in_method", "has_parent"] (defScope (inClass (topS 15) 0)) := ⟨rfl, rfl, rfl, by decide +kernel, rfl, by decide +kernel, by decide +kernel⟩
theorem ok_Place (T : Txt K mg) (pc : PlC K C) {f : Addr} {fd : FuncData} (F : Fun K "__init__" "Place.__init__" (inClass (topS 15) 0) f fd) : FnOk P w K mg base CX0 1 f fd ["self", "new_classes", "own_fields", "in_method", "has_parent"] (spPlace C) := by
  refine F.ok sc_Place___init__ (fun vs H Q E h => ?_) (fun cdv A outer s H vs Q E hr h => ?_)
  · obtain ⟨x, dx, nc, ow, im, hp, rfl, _⟩ := h
    rfl
  obtain ⟨x, dx, nc, ow, im, hp, rfl, hx, q⟩ := h
  refine ⟨_, (pss_cons (ps_fld (pv 0) (pv 1) rfl)
      (pss_cons (ps_fld (pv 0) (pv 2) rfl)
      (pss_cons (ps_fld (pv 0) (pv 3) rfl)
      (pss_one (ps_fld (pv 0) (pv 4) rfl))))), ?_⟩
  walk_at "rd"
  with_reducible refine RD.sfld ?_
  walk_at "rd"
  refine ⟨x, C, dx, [], rfl, hx, pc.cl, pc.n1, (by decide), ?_⟩
  walk_at "rd"
  with_reducible refine RD.sfld ?_
  walk_at "rd"
  refine ⟨x, C, dx, _, rfl, upd_same, pc.cl, pc.n2, (show (1 : Nat) < 1000 by decide), ?_⟩
  walk_at "rd"
  with_reducible refine RD.sfld ?_
  walk_at "rd"
  refine ⟨x, C, dx, _, rfl, upd_same, pc.cl, pc.n3, (show (2 : Nat) < 1000 by decide), ?_⟩
  walk_at "rd"
  with_reducible refine RD.sfld ?_
  walk_at "rd"
  refine ⟨x, C, dx, _, rfl, upd_same, pc.cl, pc.n4, (show (3 : Nat) < 1000 by decide), ?_⟩
  walk_at "rd"
  exact q _ (fun b hb => by rw [upd_ne hb, upd_ne hb, upd_ne hb, upd_ne hb]) upd_same
theorem sc__may_stand : FnScope ["word", "returns", "place"] ["word", "returns", "place"] (defScope (topS 22)) := ⟨rfl, rfl, rfl, by decide +kernel, rfl, by decide +kernel, by decide +kernel⟩
theorem ok_may (T : Txt K mg) (pc : PlC K C) {f : Addr} {fd : FuncData} (F : Fun K "_may_stand" "_may_stand" (topS 22) f fd) : FnOk P w K mg base CX0 1 f fd ["word", "returns", "place"] (spMay C) := by
  refine F.ok sc__may_stand (fun vs H Q E h => ?_) (fun cdv A outer s H vs Q E hr h => ?_)
  · obtain ⟨z, ret, pl, pp, rfl, _⟩ := h
    rfl
  obtain ⟨z, ret, pl, pp, rfl, ⟨dx, nc, ow, hpl, _⟩, q⟩ := h
  refine ⟨_, (pss_cons (ps_if (pt_cmpR op_eq (pv 0) pe_str (nomark _)) (pss_one (ps_ret (pe_fld (pv 2) rfl))) pss_nil)
      (pss_cons (ps_if (pt_cmpR op_eq (pv 0) pe_str (nomark _)) (pss_one (ps_ret (pe_fld (pv 2) rfl))) pss_nil)
      (pss_one (ps_ret (pe_ifExp (pt_cmpR op_eq (pv 0) pe_str (nomark _)) (pv 1) pe_bl))))), ?_⟩
  unfold mayS at q
  walk_at "rd"
  refine ite2 (fun h1 => ?_) (fun h1 => ?_)
  · rw [if_pos (of_decide_eq_true h1)] at q
    walk_at "rd"
    exact ⟨pl, C, dx, _, _, rfl, hpl, pc.cl, pc.n3, rfl, q⟩
  · rw [if_neg (fun z => h1 (decide_eq_true z))] at q
    walk_at "rd"
    refine ite2 (fun h2 => ?_) (fun h2 => ?_)
    · rw [if_pos (of_decide_eq_true h2)] at q
      walk_at "rd"
      exact ⟨pl, C, dx, _, _, rfl, hpl, pc.cl, pc.n4, rfl, q⟩
    · rw [if_neg (fun z => h2 (decide_eq_true z))] at q
      walk_at "rd"
      refine ite2 (fun h3 => ?_) (fun h3 => ?_)
      · rw [if_pos (of_decide_eq_true h3)] at q
        walk_at "rd"
        exact q
      · rw [if_neg (fun z => h3 (decide_eq_true z))] at q
        walk_at "rd"
        exact q
theorem sc_form_of : FnScope ["kind", "part"] ["kind", "part"] (defScope (topS 21)) := ⟨rfl, rfl, rfl, by decide +kernel, rfl, by decide +kernel, by decide +kernel⟩
theorem ok_form (T : Txt K mg) (t1 : FTab K w mg "STATEMENTS" tStm) (t2 : FTab K w mg "TESTS" tTests) (t3 : FTab K w mg "CALLS" tCalls) (t4 : FTab K w mg "SIMPLES" tSim) {f : Addr} {fd : FuncData} (F : Fun K "form_of" "form_of" (topS 21) f fd) : FnOk P w K mg base CX0 1 f fd ["kind", "part"] (spForm K) := by
  refine F.ok sc_form_of (fun vs H Q E h => ?_) (fun cdv A outer s H vs Q E hr h => ?_)
  · obtain ⟨k, p, xs, ds, H0, rfl, _⟩ := h
    rfl
  obtain ⟨k, p, xs, ds, H0, rfl, hS, hR, s0, q⟩ := h
  obtain ⟨p1, g1, d1, l1⟩ := t1.ex
  obtain ⟨p2, g2, d2, l2⟩ := t2.ex
  obtain ⟨p3, g3, ⟨es3, n3, d3⟩, l3⟩ := t3.ex
  obtain ⟨p4, g4, d4, l4⟩ := t4.ex
  refine ⟨_, (pss_cons (ps_if ((pw_or (pt_cmpR op_eq (pe_callB call_lenQ (by rfl) T.b_len PySem.boot_len (pa_cons (pv 1) pa_nil)) pe_int (nomark _)) (pw_or1 (pt_not (pt_val (pe_callB call_isi (by rfl) T.b_isinstance (by decide +kernel) (pa_cons (pe_ix ix_tup (pv 1) pe_int (fun _ _ => rfl)) (pa_cons (pe_bltn (v := .ty "str") (by rfl) T.b_str (by decide +kernel) rfl) pa_nil)))))))).pt (pss_one (ps_ret pe_non)) pss_nil)
      (pss_cons (ps_if (pt_cmpR op_eq (pv 0) pe_str (nomark _)) (pss_one (ps_ret (pe_kget (pe_gc (v := .ref p1) (by rfl) ⟨_, g1, rfl⟩) (pe_ix ix_tup (pv 1) pe_int (fun _ _ => rfl)) ⟨rfl, rfl, rfl, rfl⟩))) pss_nil)
      (pss_cons (ps_if (pt_cmpR op_eq (pv 0) pe_str (nomark _)) (pss_one (ps_ret (pe_kget (pe_gc (v := .ref p2) (by rfl) ⟨_, g2, rfl⟩) (pe_ix ix_tup (pv 1) pe_int (fun _ _ => rfl)) ⟨rfl, rfl, rfl, rfl⟩))) pss_nil)
      (pss_cons (ps_if ((pw_and (pt_cmpR op_eq (pv 0) pe_str (nomark _)) (pw_and1 (pt_cmpR (op_in_kd d3) (pe_ix ix_tup (pv 1) pe_int (fun _ _ => rfl)) (pe_gc (v := .ref p3) (by rfl) ⟨_, g3, rfl⟩) (by rfl))))).pt (pss_one (ps_ret (pe_ix ix_kdict (pe_gc (v := .ref p3) (by rfl) ⟨_, g3, rfl⟩) (pe_ix ix_tup (pv 1) pe_int (fun _ _ => rfl)) (fun _ _ => rfl)))) pss_nil)
      (pss_one (ps_ret (pe_kget (pe_gc (v := .ref p4) (by rfl) ⟨_, g4, rfl⟩) (pe_ix ix_tup (pv 1) pe_int (fun _ _ => rfl)) ⟨rfl, rfl, rfl, rfl⟩))))))), ?_⟩
  have hl := reps_len hR
  walk_at "rd"
  refine lenQt hS ?_
  walk_at "rd"
  cases ds with
  | nil =>
    have e0 : xs = [] := reps_nil.mp hR
    subst e0
    rw [decide_eq_true (show (([] : List V).length : Int) = 0 from rfl)]
    walk_at "rd"
    exact q
  | cons d ds =>
    obtain ⟨x, r, rfl, hx, hr2⟩ := reps_cons.mp hR
    rw [decide_eq_false (show ¬ (((x :: r).length : Nat) : Int) = 0 by rw [List.length_cons]; omega)]
    walk_at "rd"
    refine RD.ixT hS at0 ?_
    walk_at "rd"
    refine isi_str (hx.same s0) ?_
    have bad : isS d = false → formOf k (d :: ds) = none := fun e => by
      cases d with
      | s z => cases e
      | t _ => rfl
      | o => rfl
    cases d with
    | t dd =>
      dsimp only [isS]
      walk_at "rd"
      exact q
    | o =>
      dsimp only [isS]
      walk_at "rd"
      exact q
    | s z =>
      obtain ⟨rfl, hz⟩ := rep_s.mp hx
      have e0 : formOf k (D.s z :: ds) = formW k z := rfl
      rw [e0] at q
      dsimp only [isS]
      walk_at "rd"
      rw [show decide (k.txt = ("statement" : Str)) = decide (k = .statement) from kd_eq k .statement]
      refine ite2 (fun h1 => ?_) (fun h1 => ?_)
      · obtain rfl := of_decide_eq_true h1
        walk_at "rd"
        with_reducible refine RD.kget ?_
        walk_at "rd"
        refine ⟨p1, rfl, d1, ?_⟩
        walk_at "rd"
        exact RD.ixT hS at0 (kget_go (l1 z) q)
      walk_at "rd"
      rw [show decide (k.txt = ("test" : Str)) = decide (k = .test) from kd_eq k .test]
      refine ite2 (fun h2 => ?_) (fun h2 => ?_)
      · obtain rfl := of_decide_eq_true h2
        walk_at "rd"
        with_reducible refine RD.kget ?_
        walk_at "rd"
        refine ⟨p2, rfl, d2, ?_⟩
        walk_at "rd"
        exact RD.ixT hS at0 (kget_go (l2 z) q)
      walk_at "rd"
      rw [show decide (k.txt = ("right" : Str)) = decide (k = .right) from kd_eq k .right]
      have sim : formW k z = tSim.lookup z → tKGet K w (tC (V.ref p4)) (tOp (rIxT K) (tVar 1) (tC (V.int 0))) (L2.start ["kind", "part"] [V.str k.txt, V.ref p]) H Q := fun e => by
        rw [e] at q
        with_reducible refine RD.kget ?_
        walk_at "rd"
        refine ⟨p4, rfl, d4, ?_⟩
        walk_at "rd"
        exact RD.ixT hS at0 (kget_go (l4 z) q)
      have h1' : k ≠ .statement := fun e => h1 (decide_eq_true e)
      have h2' : k ≠ .test := fun e => h2 (decide_eq_true e)
      refine ite2 (fun h3 => ?_) (fun h3 => ?_)
      · obtain rfl := of_decide_eq_true h3
        walk_at "rd"
        refine RD.ixT hS at0 ?_
        walk_at "rd"
        have lz := l3 z
        cases e : tCalls.lookup z with
        | none =>
          rw [e] at lz
          refine ⟨z, none, rfl, rfl, lz, ?_⟩
          dsimp only [Option.isSome]
          walk_at "rd"
          exact sim (by show (if (tCalls.lookup z).isSome = true then _ else _) = _; rw [e]; rfl)
        | some fs =>
          rw [e] at lz
          obtain ⟨t, lz, ht⟩ := lz
          refine ⟨z, some (.ref t), rfl, rfl, lz, ?_⟩
          dsimp only [Option.isSome]
          walk_at "rd"
          refine RD.ixT hS at0 ?_
          refine ⟨p3, z, .ref t, rfl, rfl, ⟨_, _, _, d3.at_, d3.lit, lz, rfl⟩, ?_⟩
          have ef : formW .right z = some fs := by show (if (tCalls.lookup z).isSome = true then _ else _) = _; rw [e]; rfl
          rw [ef] at q
          exact q t ht
      · have h3' : k ≠ .right := fun e => h3 (decide_eq_true e)
        walk_at "rd"
        exact sim (by cases k <;> first | rfl | exact absurd rfl h1' | exact absurd rfl h2' | exact absurd rfl h3')
theorem sc__is_leaf : FnScope ["kind", "part", "place"] ["kind", "part", "place"] (defScope (topS 18)) := ⟨rfl, rfl, rfl, by decide +kernel, rfl, by decide +kernel, by decide +kernel⟩
theorem ok_leaf (T : Txt K mg) (pc : PlC K C) (c_is_name : Cal P w K mg base 1 "is_name" (spIsName K) []) (c_is_names : Cal P w K mg base 2 "is_names" (spIsNames K) []) {f : Addr} {fd : FuncData} (F : Fun K "_is_leaf" "_is_leaf" (topS 18) f fd) : FnOk P w K mg base CX0 3 f fd ["kind", "part", "place"] (spLeaf K C) := by
  refine F.ok sc__is_leaf (fun vs H Q E h => ?_) (fun cdv A outer s H vs Q E hr h => ?_)
  · obtain ⟨k, d, v, pl, pp, rfl, _⟩ := h
    rfl
  obtain ⟨k, d, v, pl, pp, rfl, hk, hR, ⟨dx, nc, ow, hpl, ⟨kn, hn, en⟩, ⟨ko, ho, eo⟩⟩, q⟩ := h
  have hu := hu_of hr
  refine ⟨_, (pss_cons (ps_if (pt_cmpR op_eq (pv 0) pe_str (nomark _)) (pss_one (ps_ret (pe_c c_is_names hr (by decide) (by rfl) (pa_cons (pv 1) (pa_cons pe_int (pa_cons (pe_gc (by rfl) T.g_MOST_PARAMS) pa_nil)))))) pss_nil)
      (pss_cons (ps_if (pt_not (pt_val (pe_c c_is_name hr (by decide) (by rfl) (pa_cons (pv 1) pa_nil)))) (pss_one (ps_ret pe_bl)) pss_nil)
      (pss_cons (ps_if (pt_cmpR op_eq (pv 0) pe_str (nomark _)) (pss_one (ps_ret (pe_cmp (pc_din hu (pv 1) (pe_fld (pv 2) rfl))))) pss_nil)
      (pss_one (ps_ret (pe_or (pe_cmpR op_eq (pv 0) pe_str (nomark _)) (pe_or (pe_cmpR op_isN1 (pe_fld (pv 2) rfl) pe_non (nomark _)) (pe_one (pe_cmp (pc_din hu (pv 1) (pe_fld (pv 2) rfl))))))))))), ?_⟩
  walk_at "rd"
  rw [show decide (k.txt = ("params" : Str)) = decide (k = .params) from kd_eq k .params]
  unfold leafOk at q
  refine ite2 (fun h1 => ?_) (fun h1 => ?_)
  · obtain rfl := of_decide_eq_true h1
    walk_at "rd"
    exact ⟨d, v, 0, 3, rfl, by decide, hR, q⟩
  rw [if_neg (fun e => h1 (decide_eq_true e))] at q
  walk_at "rd"
  refine ⟨d, v, rfl, hR, ?_⟩
  walk_at "rd"
  refine ite2 (fun h2 => ?_) (fun h2 => ?_)
  · have e : nameD d = false := by simpa using h2
    rw [e] at q
    walk_at "rd"
    exact q H (Same.refl H)
  have e : nameD d = true := by simpa using h2
  rw [e, Bool.true_and] at q
  obtain ⟨z, rfl⟩ : ∃ z, d = .s z := by
    cases d with
    | s z => exact ⟨z, rfl⟩
    | t _ => cases e
    | o => cases e
  obtain ⟨rfl, hz⟩ := rep_s.mp hR
  walk_at "rd"
  rw [show decide (k.txt = ("field" : Str)) = decide (k = .field) from kd_eq k .field]
  refine ite2 (fun h3 => ?_) (fun h3 => ?_)
  · rw [if_pos (of_decide_eq_true h3)] at q
    walk_at "rd"
    refine ⟨pl, C, dx, _, _, rfl, hpl, pc.cl, pc.n2, rfl, ow, _, rfl, DGet.k (k := Sum.inr z) ho, ?_⟩
    rw [eo]
    exact q H (Same.refl H)
  rw [if_neg (fun e => h3 (decide_eq_true e))] at q
  walk_at "rd"
  rw [show decide (k.txt = ("name" : Str)) = decide (k = .name) from kd_eq k .name]
  refine ite2 (fun h4 => ?_) (fun h4 => ?_)
  · rw [h4, Bool.true_or] at q
    exact q H (Same.refl H)
  · rw [eq_false_of_ne_true h4, Bool.false_or] at q
    walk_at "rd"
    refine ⟨pl, C, dx, _, _, rfl, hpl, pc.cl, pc.n1, rfl, ?_⟩
    walk_at "rd"
    refine ⟨pl, C, dx, _, _, rfl, hpl, pc.cl, pc.n1, rfl, nc, _, rfl, DGet.k (k := Sum.inr z) hn, ?_⟩
    rw [en]
    exact q H (Same.refl H)
theorem sc__statements : FnScope ["block", "spot", "deep", "returns", "_", "statement"] ["block", "spot"] (defScope (topS 19)) := ⟨rfl, rfl, rfl, by decide +kernel, rfl, by decide +kernel, by decide +kernel⟩
theorem ok_stm (T : Txt K mg) {f : Addr} {fd : FuncData} (F : Fun K "_statements" "_statements" (topS 19) f fd) : FnOk P w K mg base CX0 1 f fd ["block", "spot"] (spStm K) := by
  refine F.ok sc__statements (fun vs H Q E h => ?_) (fun cdv A outer s H vs Q E hr h => ?_)
  · obtain ⟨p, sp, xs, ds, H0, deep, tests, ret, rfl, _⟩ := h
    rfl
  obtain ⟨p, sp, xs, ds, H0, deep, tests, ret, rfl, hS, hR, s0, hsp, q⟩ := h
  have hl := reps_len hR
  refine ⟨_, (pss_cons (ps_asg (pv 1) (pg_tup rfl (pgs_cons (pg_name (i := 2) sc__statements.nd rfl (Or.inr rfl)) (pgs_cons (pg_name (i := 3) sc__statements.nd rfl (Or.inr rfl)) (pgs_cons (pg_name (i := 4) sc__statements.nd rfl (Or.inl rfl)) pgs_nil)))))
      (pss_cons (ps_if ((pw_or (pt_cmpR op_eq (pv 2) (pe_gc (by rfl) T.g_MOST_BLOCKS) (nomark _)) (pw_or1 (pt_cmpR op_gt (pe_callB call_lenQ (by rfl) T.b_len PySem.boot_len (pa_cons (pv 0) pa_nil)) (pe_gc (by rfl) T.g_MOST_STATEMENTS) (nomark _))))).pt (pss_one (ps_ret pe_non)) pss_nil)
      (pss_one (ps_ret (pe_lc (own := [("statement", 5)]) (tt := tYes) rfl sc__statements.nd (pi_tup (pv 0)) (blkOk_by (N := ["block", "spot", "deep", "returns", "_", "statement"]) (sc := defScope (topS 19)) (by decide +kernel)) (fun _ _ _ _ _ => (pg_name (i := 5) sc__statements.nd rfl (Or.inl rfl))) (fun _ _ _ _ _ => pts_nil) (fun _ _ _ _ _ => (pe_tup (pa_cons pe_str (pa_cons (pv 5) (pa_cons (pe_tup (pa_cons (pe_op op_add (pv 2) pe_int) (pa_cons (pv 3) (pa_cons pe_int pa_nil)))) pa_nil)))))))))), ?_⟩
  walk_at "rd"
  refine RD.unp (.inl (.inl hsp)) rfl ?_
  walk_at "rd"
  unfold stmtsM at q
  refine ite2 (fun h1 => ?_) (fun h1 => ?_)
  · have e : deep = 8 := by
      have := of_decide_eq_true h1
      omega
    rw [if_pos (.inl e)] at q
    walk_at "rd"
    exact q H (Same.refl H)
  have e : deep ≠ 8 := fun z => h1 (decide_eq_true (by omega))
  walk_at "rd"
  refine lenQt hS ?_
  walk_at "rd"
  refine ite2 (fun h2 => ?_) (fun h2 => ?_)
  · have e2 : 12 < ds.length := by
      have := of_decide_eq_true h2
      omega
    rw [if_pos (.inr e2)] at q
    walk_at "rd"
    exact q H (Same.refl H)
  have e2 : ds.length ≤ 12 := by
    have : ¬ (12 : Int) < ((xs.length : Nat) : Int) := fun z => h2 (decide_eq_true z)
    omega
  rw [if_neg (fun z => by rcases z with z | z <;> omega)] at q
  walk_at "rd"
  unfold tLc
  walk_at "rd"
  refine ⟨p, rfl, ⟨_, hS⟩, fun D hD => lc_its walk_tup (by rw [List.length_map]; exact hl) (by omega) hD (fun H2 s2 => same_t s2 hS) (fun i it x H2 H3 hit s2 hy QQ qq => ?_) fun H2 ys s2 hL hI => q H2 D ys s2 hD hL hI⟩
  obtain ⟨rfl, hx⟩ := hy
  obtain ⟨d, hd, hR2⟩ := reps_at hR hx
  rw [List.getElem?_map, hd] at hit
  obtain rfl := Option.some.inj hit
  walk_at "rd"
  refine ⟨rfl, ?_⟩
  walk_at "rd"
  refine ⟨sl3, fun s3 n3 => ?_⟩
  walk_at "rd"
  refine ⟨sl3, fun q3 n4 => ?_⟩
  have e3 : s3 ≠ q3 := fun e => by rw [e, upd_same] at n4; cases n4
  exact qq _ _ (((Same.refl _).nw n3).nw n4) ⟨q3, s3, x, rfl, upd_same, by rw [upd_ne e3]; exact upd_same, hR2⟩
theorem sc__form_parts : FnScope ["kind", "part", "spot", "place", "deep", "returns", "tests", "form", "inner", "thing"] ["kind", "part", "spot", "place"] (defScope (topS 20)) := ⟨rfl, rfl, rfl, by decide +kernel, rfl, by decide +kernel, by decide +kernel⟩
theorem ok_parts (T : Txt K mg) (pc : PlC K C) (c_form_of : Cal P w K mg base 1 "form_of" (spForm K) []) (c__may_stand : Cal P w K mg base 1 "_may_stand" (spMay C) []) {f : Addr} {fd : FuncData} (F : Fun K "_form_parts" "_form_parts" (topS 20) f fd) : FnOk P w K mg base CX0 2 f fd ["kind", "part", "spot", "place"] (spParts K C) := by
  refine F.ok sc__form_parts (fun vs H Q E h => ?_) (fun cdv A outer s H vs Q E hr h => ?_)
  · obtain ⟨k, p, sp, pl, xs, ds, H0, deep, tests, ret, pp, rfl, _⟩ := h
    rfl
  obtain ⟨k, p, sp, pl, xs, ds, H0, deep, tests, ret, pp, rfl, hS, hR, s0, hsp, hpl, q⟩ := h
  have hl := reps_len hR
  refine ⟨_, (pss_cons (ps_asg (pv 2) (pg_tup rfl (pgs_cons (pg_name (i := 4) sc__form_parts.nd rfl (Or.inr rfl)) (pgs_cons (pg_name (i := 5) sc__form_parts.nd rfl (Or.inr rfl)) (pgs_cons (pg_name (i := 6) sc__form_parts.nd rfl (Or.inr rfl)) pgs_nil)))))
      (pss_cons (ps_if (pt_cmpR op_eq (pv 0) pe_str (nomark _)) (pss_one (ps_aug (i := 6) sc__form_parts.nd rfl (Or.inr rfl) pe_int ip_add)) pss_nil)
      (pss_cons (ps_set (i := 7) sc__form_parts.nd rfl (Or.inl rfl) (pe_c c_form_of hr (by decide) (by rfl) (pa_cons (pv 0) (pa_cons (pv 1) pa_nil))))
      (pss_cons (ps_if ((pw_or (pt_cmpR op_isN1 (pv 7) pe_non (nomark _)) (pw_or (pt_cmpR op_ne (pe_callB call_lenQ (by rfl) T.b_len PySem.boot_len (pa_cons (pv 1) pa_nil)) (pe_op op_add pe_int (pe_callB call_lenQ (by rfl) T.b_len PySem.boot_len (pa_cons (pv 7) pa_nil))) (nomark _)) (pw_or1 (pt_cmpR op_gt (pv 6) (pe_gc (by rfl) T.g_MOST_TESTS) (nomark _)))))).pt (pss_one (ps_ret pe_non)) pss_nil)
      (pss_cons (ps_if (pt_not (pt_val (pe_c c__may_stand hr (by decide) (by rfl) (pa_cons (pe_ix ix_tup (pv 1) pe_int (fun _ _ => rfl)) (pa_cons (pv 5) (pa_cons (pv 3) pa_nil)))))) (pss_one (ps_ret pe_non)) pss_nil)
      (pss_one (ps_ret (pe_lc (own := [("inner", 8), ("thing", 9)]) (g := gTup K 2 (gCons (gName 8) (gCons (gName 9) gNil))) (tt := tYes) rfl sc__form_parts.nd (RZ.pi_zipA (by rfl) T.b_zip (pa_cons (pv 7) (pa_cons (pe_slice sl_tupA (pv 1) (po_some pe_int) po_none) pa_nil))) (blkOk_by (N := ["kind", "part", "spot", "place", "deep", "returns", "tests", "form", "inner", "thing"]) (sc := defScope (topS 20)) (by decide +kernel)) (fun _ _ _ _ _ => (pg_tup rfl (pgs_cons (pg_name (i := 8) sc__form_parts.nd rfl (Or.inl rfl)) (pgs_cons (pg_name (i := 9) sc__form_parts.nd rfl (Or.inl rfl)) pgs_nil)))) (fun _ _ _ _ _ => pts_nil) (fun _ _ _ _ _ => (pe_tup (pa_cons (pv 8) (pa_cons (pv 9) (pa_cons (pe_tup (pa_cons (pv 4) (pa_cons (pv 5) (pa_cons (pv 6) pa_nil)))) pa_nil))))))))))))), ?_⟩
  walk_at "rd"
  refine RD.unp (.inl (.inl hsp)) rfl ?_
  walk_at "rd"
  rw [show decide (k.txt = ("test" : Str)) = decide (k = .test) from kd_eq k .test]
  refine ite2 (fun h1 => ?ga) (fun h1 => ?gb)
  case' ga =>
    refine RD.aug rfl ?_
    walk_at "rd"
    refine ⟨_, _, rfl, rfl, ?_⟩
    dsimp only
    walk_at "rd"
    rw [show (tests : Int) + 1 = ((testsN k tests : Nat) : Int) by unfold testsN; rw [if_pos (of_decide_eq_true h1)]; rfl]
  case' gb =>
    walk_at "rd"
    rw [show (tests : Int) = ((testsN k tests : Nat) : Int) by unfold testsN; rw [if_neg (fun e => h1 (decide_eq_true e))]]
  all_goals
    clear h1
    unfold partsM at q
    refine ⟨k, p, xs, ds, H0, rfl, hS, hR, s0, ?_⟩
    cases e : formOf k ds with
    | none =>
      rw [e] at q
      walk_at "rd"
      exact q H (Same.refl H)
    | some fs =>
      rw [e] at q
      dsimp only at q
      intro t ht
      have hft : (kTx fs).length = fs.length := List.length_map _
      walk_at "rd"
      refine lenQt hS ?_
      walk_at "rd"
      refine lenQt (ht _) ?_
      walk_at "rd"
      refine ite2 (fun h2 => ?_) (fun h2 => ?_)
      · have h2' : ds.length ≠ 1 + fs.length := fun z => by
          rw [decide_eq_true (show ((xs.length : Nat) : Int) = 1 + (((kTx fs).length : Nat) : Int) by omega)] at h2
          cases h2
        rw [if_pos (.inl h2')] at q
        walk_at "rd"
        exact q H (Same.refl H)
      have h2' : ds.length = 1 + fs.length := by
        have : ((xs.length : Nat) : Int) = 1 + (((kTx fs).length : Nat) : Int) := by
          by_cases z : ((xs.length : Nat) : Int) = 1 + (((kTx fs).length : Nat) : Int)
          · exact z
          · rw [decide_eq_false z] at h2
            exact absurd rfl h2
        omega
      walk_at "rd"
      refine ite2 (fun h3 => ?_) (fun h3 => ?_)
      · have h3' : 3 < testsN k tests := by
          have := of_decide_eq_true h3
          omega
        rw [if_pos (.inr h3')] at q
        walk_at "rd"
        exact q H (Same.refl H)
      have h3' : ¬ 3 < testsN k tests := fun z => h3 (decide_eq_true (by omega))
      rw [if_neg (fun z => by rcases z with z | z <;> omega)] at q
      walk_at "rd"
      obtain ⟨z, ds', rfl⟩ : ∃ z ds', ds = .s z :: ds' := by
        cases ds with
        | nil => cases e
        | cons d ds' =>
          cases d with
          | s z => exact ⟨z, ds', rfl⟩
          | t _ => cases e
          | o => cases e
      obtain ⟨x0, r, rfl, hx, hR2⟩ := reps_cons.mp hR
      obtain ⟨rfl, hz⟩ := rep_s.mp hx
      refine RD.ixT hS at0 ?_
      walk_at "rd"
      refine ⟨z, ret, pl, pp, rfl, hpl, ?_⟩
      walk_at "rd"
      rw [show mayS pp (head (.s z :: ds')) ret = mayS pp z ret from rfl] at q
      refine ite2 (fun h4 => ?_) (fun h4 => ?_)
      · rw [if_neg (fun e => by rw [e] at h4; cases h4)] at q
        walk_at "rd"
        exact q H (Same.refl H)
      rw [if_pos (by cases h5 : mayS pp z ret with | true => rfl | false => rw [h5] at h4; exact absurd rfl h4)] at q
      walk_at "rd"
      unfold tLc
      with_reducible refine RD.izip ?_
      walk_at "rd"
      refine ⟨p, _, rfl, hS, fun hw => absurd ((HT.sIx_nat _ _ 1).symm.trans hw.1) (by rw [List.length_cons]; omega), fun hw s4 n4 => ?_⟩
      rw [cut1]
      walk_at "rd"
      have hrl := reps_len hR2
      have hd1 : (V.str z :: r).length = r.length + 1 := List.length_cons ..
      have hd2 : (D.s z :: ds').length = ds'.length + 1 := List.length_cons ..
      refine ⟨t, s4, _, _, rfl, .inr ⟨ht _, .inl (.inl upd_same), fun DD hD => ?_⟩⟩
      have s4s : Same H (upd H s4 (.tup r)) := (Same.refl H).nw n4
      refine lc_its (H0 := H0) (walk_zipT (xs := kTx fs) (zs := r) rfl) (by rw [List.length_map, List.length_zip]; show min fs.length ds'.length = _; rw [hft, hrl]) (by have := form_le e; omega) hD (fun H2 s2 => ⟨ht _, .inl (.inl (s2 _ _ upd_same))⟩) (fun i it x H2 H3 hit s2 hy QQ qq => ?_) fun H2 ys s2 hL hI => q H2 DD ys (s4s.trans s2) (by
        by_cases hD2 : DD = s4
        · rw [hD2, upd_same] at hD; cases hD
        · rw [upd_ne hD2] at hD; exact hD) hL hI
      obtain ⟨T, x, y, rfl, nT, rfl, hx1, hy1⟩ := hy
      obtain ⟨d, hd, hRd⟩ := reps_at hR2 hy1
      have hx2 : (fs.map fun k => V.str k.txt)[i]? = some x := hx1
      rw [List.getElem?_map] at hx2
      obtain ⟨fk, hfk, rfl⟩ := Option.map_eq_some_iff.mp hx2
      rw [List.getElem?_map, List.getElem?_zip_eq_some.mpr (show fs[i]? = some (fk, d).1 ∧ (D.s z :: ds').tail[i]? = some (fk, d).2 from ⟨hfk, hd⟩)] at hit
      obtain rfl := Option.some.inj hit
      refine RD.unp (xs := [.str fk.txt, y]) (.inl (.inl upd_same)) rfl ?_
      walk_at "rd"
      refine ⟨rfl, ?_⟩
      walk_at "rd"
      refine ⟨sl3, fun s3 n3 => ?_⟩
      walk_at "rd"
      refine ⟨sl3, fun q3 n5 => ?_⟩
      have e3 : s3 ≠ q3 := fun e => by rw [e, upd_same] at n5; cases n5
      exact qq _ _ ((((Same.refl _).nw nT).nw n3).nw n5) ⟨q3, s3, y, rfl, upd_same, by rw [upd_ne e3]; exact upd_same, hRd⟩
end
end SF

set_option Elab.async false
set_option linter.all false
set_option maxRecDepth 100000
set_option maxHeartbeats 4000000
/-! a head's Hook by names: defs at addresses found by a path (closures too), tables of forms, an own exception with super().__init__ -/
namespace G5
open PySem PySem.Spec PyProof.Rows L2 He
/-! ### defs -/
structure FnQ where
  addr : PySem.W.Frag → Addr
  name : Str
  qual : Str
  params : Arguments
  body : List Stmt
  scope : Scope
  clo : List Str
abbrev FnS : Type := Option (Str × Str × Arguments × FuncBody × Scope × Addr × List Str × Addr)
def fnQ (K : PySem.W.Frag) (a : Addr) : FnS := match K.lookup a with
  | some ⟨_, _, .func fd, _⟩ => some (fd.name, fd.qualname, fd.params, fd.body, fd.scope, fd.globals, fd.closure.map (·.1), fd.builtins)
  | _ => none
def FnQ.val (d : FnQ) : FnS := some (d.name, d.qual, d.params, .stmts d.body, d.scope, mainGlobals, d.clo, builtinsNs)
def noneV : Value → Bool
  | .none => true
  | _ => false
def FnQ.ok (K : PySem.W.Frag) (d : FnQ) : Bool := PySem.W.keepIn K (.ref (d.addr K)) && (match K.lookup (d.addr K) with
  | some ⟨_, _, .func fd, _⟩ => PySem.W.codeIn K fd.code d.qual && noneV fd.defaults
  | _ => false)
theorem FnQ.get {K : PySem.W.Frag} {d : FnQ} (e : fnQ K (d.addr K) = d.val) (c : d.ok K = true) : PySem.W.keepIn K (.ref (d.addr K)) = true ∧ ∃ (oc : Value) (od : Option Addr) (kV doc pm : Value) (an : Option Addr) (cdv ct : Value) (osl : Array (Option Value)) (cl : List (Str × Addr)),
    cl.map (·.1) = d.clo ∧ K.lookup (d.addr K) = some ⟨oc, od, .func (PySem.W.fnX d.name d.qual d.params d.body d.scope cl .none kV doc pm an cdv ct), osl⟩ ∧ PySem.W.codeIn K cdv d.qual = true := by
  obtain ⟨kp, c2⟩ := ba c
  refine ⟨kp, ?_⟩
  unfold fnQ at e
  cases q : K.lookup (d.addr K) with
  | none =>
    rw [q] at c2
    cases c2
  | some o =>
    obtain ⟨oc, od, dt, osl⟩ := o
    rw [q] at c2 e
    cases dt with
    | func fd =>
      obtain ⟨n1, n2, n3, n4, n5, n6, n7, n8, n9, n10, n11, n12, n13, n14, n15⟩ := fd
      have e2 : (some (n1, n2, n3, n4, n5, n6, n7.map (·.1), n15) : FnS) = some (d.name, d.qual, d.params, .stmts d.body, d.scope, mainGlobals, d.clo, builtinsNs) := e
      simp only [Option.some.injEq, Prod.mk.injEq] at e2
      obtain ⟨h1, h2, h3, h4, h5, h6, h7, h8⟩ := e2
      have c3 : (PySem.W.codeIn K n13 d.qual && noneV n8) = true := c2
      obtain ⟨k1, k2⟩ := ba c3
      cases n8 with
      | none =>
        subst h1 h2 h3 h4 h5 h6 h8
        exact ⟨oc, od, n9, n10, n11, n12, n13, n14, osl, n7, h7, rfl, k1⟩
      | _ => cases k2
    | _ => cases c2
/-- a def without a closure -/
theorem FnQ.fun0 {K : PySem.W.Frag} {d : FnQ} {st : Stmt} (e : fnQ K (d.addr K) = d.val) (c : d.ok K = true) (hc : d.clo = []) (h1 : d.params = defArgs st) (h2 : d.body = defBody st) (h3 : d.scope = defScope st) : ∃ fd, L2.Fun K d.name d.qual st (d.addr K) fd := by
  obtain ⟨kp, oc, od, kV, doc, pm, an, cdv, ct, osl, cl, e1, e2, e3⟩ := FnQ.get e c
  rw [hc] at e1
  have e4 : cl = [] := List.map_eq_nil_iff.mp e1
  subst e4
  rw [h1, h2, h3] at e2
  exact ⟨_, ⟨oc, od, kV, doc, pm, an, cdv, ct, osl, rfl, e2, e3⟩, kp⟩
/-! ### written tuples, tables of forms -/
def tupA (K : PySem.W.Frag) (t : Addr) (vs : List V) : Bool := match K.lookup t with
  | some ⟨.type c, _, .seq its _, _⟩ => decide (c = "tuple") && (decide (its.size ≤ sizeLine) && relAll vs its.toList)
  | _ => false
theorem tupA_ok {K : PySem.W.Frag} {t : Addr} {vs : List V} (h : tupA K t vs = true) (H : Hp) : SqT K H t vs := by
  unfold tupA at h
  cases q : K.lookup t with
  | none =>
    rw [q] at h
    cases h
  | some o =>
    obtain ⟨oc, od, dt, osl⟩ := o
    rw [q] at h
    cases oc with
    | type c =>
      cases dt with
      | seq its n =>
        obtain ⟨h1, h2⟩ := ba (show (decide (c = "tuple") && (decide (its.size ≤ sizeLine) && relAll vs its.toList)) = true from h)
        obtain ⟨h3, h4⟩ := ba h2
        exact .inr ⟨_, its, n, q, congrArg Value.type (of_decide_eq_true h1), rfl, of_decide_eq_true h3, relAll_ok h4⟩
      | _ => cases h
    | _ => cases dt <;> cases h
def tabB (K : PySem.W.Frag) (p : Addr) (tab : SF.Tab) : Bool := tab.all fun q => match PySem.W.nsIn K p q.1 with
  | some (some (.ref t)) => tupA K t (SF.kTx q.2)
  | _ => false
theorem look_mem {z : Str} {fs : List SF.Kd} : ∀ {tab : SF.Tab}, tab.lookup z = some fs → (z, fs) ∈ tab
  | [], h => by cases h
  | (a, b) :: r, h => by
    rw [List.lookup_cons] at h
    split at h
    · rename_i e
      rw [← Option.some.inj h, eq_of_beq e]
      exact List.mem_cons_self
    · exact List.mem_cons_of_mem _ (look_mem h)
theorem look_not {z : Str} : ∀ {tab : SF.Tab}, tab.lookup z = none → z ∉ tab.map (·.1)
  | [], _ => by simp
  | (a, b) :: r, h => by
    rw [List.lookup_cons] at h
    split at h
    · cases h
    · rename_i e
      intro hm
      rcases List.mem_cons.mp hm with h1 | h1
      · rw [h1] at e
        simp at e
      · exact look_not h h1
theorem str_key {k z : Str} {t : Tok} (h : k ≠ z) : (Value.str k t).isStr z = false := by
  show (k == z) = false
  exact beq_eq_false_iff_ne.mpr h
theorem find_no {P : Params} {z : Str} : ∀ {es : List DictEntry} {ks : List Str}, es.map He.keyOf = keysIn P ks → z ∉ ks → es.find? (·.key.isStr z) = none ∧ es.any (·.refKey) = false
  | [], [], _, _ => ⟨rfl, rfl⟩
  | [], _ :: _, h, _ => by simp [keysIn] at h
  | _ :: _, [], h, _ => by simp [keysIn] at h
  | e :: es, k :: ks, h, hz => by
    have h1 : He.keyOf e :: es.map He.keyOf = some (k, PyData.keyHash P k) :: keysIn P ks := h
    injection h1 with h2 h3
    rw [List.mem_cons, not_or] at hz
    obtain ⟨i1, i2⟩ := find_no h3 hz.2
    unfold He.keyOf at h2
    obtain ⟨eh, ek, ev⟩ := e
    cases ek with
    | str x t =>
      have e4 : x = k := (Prod.mk.inj (Option.some.inj h2)).1
      subst e4
      refine ⟨?_, ?_⟩
      · rw [List.find?_cons_of_neg (by rw [str_key (Ne.symm hz.1)]; exact Bool.false_ne_true)]
        exact i1
      · rw [List.any_cons, i2]
        rfl
    | _ => cases h2
/-- a table of forms, by its keys and its values -/
theorem tab_ok {K : PySem.W.Frag} {w : World} {mg : Str → Option Value} {x : Str} {tab : SF.Tab} {p : Addr} (hm : mg x = some (.ref p)) (hd : dicW K p = some (keysIn w.params (tab.map (·.1)))) (hv : tabB K p tab = true) : SF.FTab K w mg x tab := by
  obtain ⟨es, n, D⟩ := dicW_ok hd
  refine ⟨p, hm, ⟨es, n, D⟩, fun z => ?_⟩
  have hk : es.toList.map He.keyOf = keysIn w.params (tab.map (·.1)) := by
    unfold dicW at hd
    rw [D.at_] at hd
    have h1 : (match decide ("dict" = "dict") && ((#[] : Array (Option Value)).isEmpty && !(p == sysModules)) with
      | true => some (es.toList.map He.keyOf)
      | false => none) = some (keysIn w.params (tab.map (·.1))) := hd
    rw [D.low] at h1
    exact Option.some.inj h1
  cases e : tab.lookup z with
  | none =>
    show PySem.W.nsIn K p z = some none
    unfold PySem.W.nsIn
    rw [D.at_]
    obtain ⟨i1, i2⟩ := find_no hk (look_not e)
    dsimp only
    rw [i1, i2]
    rfl
  | some fs =>
    have h1 := List.all_eq_true.mp hv (z, fs) (look_mem e)
    have h2 : (match PySem.W.nsIn K p z with
      | some (some (.ref t)) => tupA K t (SF.kTx fs)
      | _ => false) = true := h1
    cases e2 : PySem.W.nsIn K p z with
    | none => rw [e2] at h2; cases h2
    | some o =>
      rw [e2] at h2
      cases o with
      | none => cases h2
      | some v =>
        cases v with
        | ref t => exact ⟨t, rfl, fun H => tupA_ok h2 H⟩
        | _ => cases h2
/-! ### an own exception class over another one -/
def excB (K : PySem.W.Frag) (C : Addr) : Bool := match K.lookup C with
  | some ⟨.type "type", _, .cls cd, sl⟩ => (match cd.mro, sl.toList with
    | .ref C' :: bm, [_, _, _, _, some (.builtin n), _] => decide (C' = C) && (decide (n = "ValueError.__new__") && (!cd.hasDel && (cd.hasDict && PySem.HandSPX.refsVE bm)))
    | _, _ => false)
  | _ => false
theorem excB_ok {K : PySem.W.Frag} {C : Addr} (q : excB K C = true) : ∃ nm qn N bs bm sn sub ab col dd k0 k1 k2 k3 k5, K.lookup C = some (excClassObj nm qn C N bs bm true sn sub ab col dd k0 k1 k2 k3 k5 "ValueError.__new__") ∧ PySem.HandSPX.refsVE bm = true := by
  unfold excB at q
  split at q
  · rename_i dd cd sl ho
    split at q
    · rename_i C' bm k0 k1 k2 k3 n k5 hm hs
      simp only [Bool.and_eq_true, decide_eq_true_eq, Bool.not_eq_true'] at q
      obtain ⟨rfl, rfl, hdel, hdict, hb⟩ := q
      obtain ⟨nm, bs, mro, ns, qn, hd, sn, sub, ab, col, del⟩ := cd
      dsimp only at hm hdel hdict
      subst hm hdel hdict
      have hsl : sl = #[k0, k1, k2, k3, some (.builtin "ValueError.__new__"), k5] := by
        obtain ⟨l⟩ := sl
        simp only at hs
        rw [hs]
      subst hsl
      exact ⟨nm, qn, ns, bs, bm, sn, sub, ab, col, dd, k0, k1, k2, k3, k5, ho, hb⟩
    · cases q
  · cases q
end G5

set_option Elab.async false
set_option linter.all false
set_option maxRecDepth 100000
set_option maxHeartbeats 4000000
namespace SF
open PySem PySem.Spec PyProof.Rows L2 G0
open C8 (Cal Mak Met pe_c pe_mk pe_mt pe_mt0 pe_gc)
theorem none_of {H H1 : Hp} {L : Addr} (s : Same H H1) (n : H1 L = none) : H L = none := by
  cases e : H L with
  | none => rfl
  | some u => exact absurd (s _ _ e) (by rw [n]; intro z; cases z)
theorem RetI.mono {K : PySem.W.Frag} {H0 H H1 : Hp} {Q : VK} {o : Option (List Wk)} (h : RetI K H0 H Q o) (s : Same H H1) : RetI K H0 H1 Q o := by
  cases o with
  | none => exact fun H' s' => h H' (s.trans s')
  | some l => exact fun H' L ys s' nL => h H' L ys (s.trans s') (none_of s nL)
section
variable {P : Program} {w : World} {K : PySem.W.Frag} {mg : Str → Option Value} {base : Heap} {C : Addr}
local macro_rules | `(tactic| walk_at "rd1") => `(tactic| first
  | (with_reducible refine RD.seq ?_) | (with_reducible refine RD.next ?_) | (with_reducible refine RD.ifS ?_) | (with_reducible refine RD.ret ?_) | (with_reducible refine RD.retN ?_) | (with_reducible refine RD.drop ?_) | (with_reducible refine RD.asg ?_) | (with_reducible refine RD.gname ?_)
  | ((with_reducible apply RD.var); exact rfl) | (with_reducible refine RD.c_ ?_) | (with_reducible refine RD.op ?_) | (with_reducible refine RD.un ?_) | (with_reducible refine RD.cb ?_) | (with_reducible refine RD.cons ?_) | (with_reducible refine RD.nil ?_) | (with_reducible refine RD.tup ?_) | (with_reducible refine RD.lst ?_)
  | (with_reducible refine RD.B_ ?_) | (with_reducible refine RD.test ?_) | (with_reducible refine RD.exB ?_) | (with_reducible refine RD.exI ?_) | (with_reducible refine RD.and_ ?_) | (with_reducible refine RD.or_ ?_) | (with_reducible refine RD.not_ ?_) | (with_reducible refine RD.andV ?_) | (with_reducible refine RD.orV ?_) | (with_reducible refine RD.notV ?_) | (with_reducible refine RD.if_ ?_)
  | (with_reducible refine RD.ifT ?_) | (with_reducible refine RD.ifF ?_) | (with_reducible refine RD.ifNT ?_) | (with_reducible refine RD.ifNF ?_) | (with_reducible refine RD.yes ?_) | (with_reducible refine RD.sl ?_) | (with_reducible refine RD.noPart ?_) | (with_reducible refine RD.part ?_) | (with_reducible refine RD.i0 ?_) | (with_reducible refine RD.eqS ?_) | (with_reducible refine RD.eqI ?_) | (with_reducible refine RD.neS ?_) | (with_reducible refine RD.neI ?_)
  | (with_reducible refine RD.isN_n ?_) | (with_reducible refine RD.isN_r ?_) | (with_reducible refine RD.isN_s ?_) | (with_reducible refine RD.isN_b ?_) | (with_reducible refine RD.isN_i ?_) | (with_reducible refine RD.notN_n ?_) | (with_reducible refine RD.notN_r ?_) | (with_reducible refine RD.notN_s ?_)
  | (with_reducible refine RD.call ?_) | (with_reducible refine RD.make ?_) | (with_reducible refine RD.gcons ?_) | (with_reducible refine RD.gnil ?_) | (with_reducible refine RD.bm ?_) | (with_reducible refine RD.bm0 ?_) | (with_reducible refine RD.dget ?_) | (with_reducible refine RD.din ?_) | (with_reducible refine RD.tfld ?_) | (with_reducible refine RD.then_ ?_) | (with_reducible refine RD.chain ?_) | (with_reducible refine RD.itup ?_) | (with_reducible refine RD.ikeys ?_) | (with_reducible refine RD.ivals ?_) | (with_reducible refine RD.iitems ?_) | (with_reducible refine RD.lset ?_) | (with_reducible refine RD.ilist ?_) | ((with_reducible apply RD.aug); exact rfl))
local macro_rules | `(tactic| walk_at "rd") => `(tactic| repeat walk_at "rd1")

theorem sc__inner_parts : FnScope ["kind", "part", "spot", "place", "thing"] ["kind", "part", "spot", "place"] (defScope (topS 17)) := ⟨rfl, rfl, rfl, by decide +kernel, rfl, by decide +kernel, by decide +kernel⟩
theorem ok_inner (T : Txt K mg) (pc : PlC K C) (c__is_leaf : Cal P w K mg base 3 "_is_leaf" (spLeaf K C) []) (c__statements : Cal P w K mg base 1 "_statements" (spStm K) []) (c__form_parts : Cal P w K mg base 2 "_form_parts" (spParts K C) []) {f : Addr} {fd : FuncData} (F : Fun K "_inner_parts" "_inner_parts" (topS 17) f fd) : FnOk P w K mg base CX0 4 f fd ["kind", "part", "spot", "place"] (spInner K C) := by
  refine F.ok sc__inner_parts (fun vs H Q E h => ?_) (fun cdv A outer s H vs Q E hr h => ?_)
  · obtain ⟨it, v, sp, pl, H0, pp, rfl, _⟩ := h
    rfl
  obtain ⟨⟨k, d, deep, ret, tests⟩, v, sp, pl, H0, pp, rfl, hR, s0, hsp, hpl, q⟩ := h
  dsimp only at hR hsp q ⊢
  refine ⟨_, (pss_cons (ps_if (pt_cmpR op_in_seq (pv 0) (pe_tup (pa_cons pe_str (pa_cons pe_str (pa_cons pe_str (pa_cons pe_str pa_nil))))) (by rfl)) (pss_one (ps_ret (pe_ifExp (pt_val (pe_c c__is_leaf hr (by decide) (by rfl) (pa_cons (pv 0) (pa_cons (pv 1) (pa_cons (pv 3) pa_nil))))) (pe_lst pa_nil) pe_non))) pss_nil)
      (pss_cons (ps_if (pt_not (pt_val (pe_callB call_isi (by rfl) T.b_isinstance (by decide +kernel) (pa_cons (pv 1) (pa_cons (pe_bltn (v := .ty "tuple") (by rfl) T.b_tuple (by decide +kernel) rfl) pa_nil))))) (pss_one (ps_ret pe_non)) pss_nil)
      (pss_cons (ps_if (pt_cmpR op_eq (pv 0) pe_str (nomark _)) (pss_one (ps_ret (pe_c c__statements hr (by decide) (by rfl) (pa_cons (pv 1) (pa_cons (pv 2) pa_nil))))) pss_nil)
      (pss_cons (ps_if (pt_cmpR op_eq (pv 0) pe_str (nomark _)) (pss_one (ps_ret (pe_c c__statements hr (by decide) (by rfl) (pa_cons (pv 1) (pa_cons (pe_tup (pa_cons (pe_ix ix_tup (pv 2) pe_int (fun _ _ => rfl)) (pa_cons pe_bl (pa_cons pe_int pa_nil)))) pa_nil))))) pss_nil)
      (pss_cons (ps_if (pt_cmpR op_eq (pv 0) pe_str (nomark _)) (pss_one (ps_ret (pe_ifExp (pt_cmpR op_gt (pe_callB call_lenQ (by rfl) T.b_len PySem.boot_len (pa_cons (pv 1) pa_nil)) (pe_gc (by rfl) T.g_MOST_THINGS) (nomark _)) pe_non (pe_lc (own := [("thing", 4)]) (tt := tYes) rfl sc__inner_parts.nd (pi_tup (pv 1)) (blkOk_by (N := ["kind", "part", "spot", "place", "thing"]) (sc := defScope (topS 17)) (by decide +kernel)) (fun _ _ _ _ _ => (pg_name (i := 4) sc__inner_parts.nd rfl (Or.inl rfl))) (fun _ _ _ _ _ => pts_nil) (fun _ _ _ _ _ => (pe_tup (pa_cons pe_str (pa_cons (pv 4) (pa_cons (pv 2) pa_nil))))))))) pss_nil)
      (pss_one (ps_ret (pe_c c__form_parts hr (by decide) (by rfl) (pa_cons (pv 0) (pa_cons (pv 1) (pa_cons (pv 2) (pa_cons (pv 3) pa_nil)))))))))))), ?_⟩
  walk_at "rd"
  refine ⟨sl4, fun p1 np1 => ?_⟩
  walk_at "rd"
  refine RD.inT (.inl (.inl upd_same)) rfl rfl ?_
  rw [kd_in]
  have s1 : Same H (upd H p1 (.tup [.str "name", .str "field", .str "class", .str "params"])) := (Same.refl H).nw np1
  revert s1
  generalize upd H p1 (.tup [.str "name", .str "field", .str "class", .str "params"]) = H1
  intro s1
  unfold innerM at q
  dsimp only at q
  refine RD.exB ?_
  walk_at "rd"
  refine ite2 (fun h1 => ?_) (fun h1 => ?_)
  · rw [if_pos h1] at q
    walk_at "rd"
    refine ⟨k, d, v, pl, pp, rfl, h1, (hR.same s0).same s1, hpl.same s1, fun H2 s2 => ?_⟩
    walk_at "rd"
    refine ite2 (fun h2 => ?_) (fun h2 => ?_)
    · rw [if_pos h2] at q
      walk_at "rd"
      refine ⟨Nat.zero_le _, fun L nL => ?_⟩
      have hn : H L = none := by
        cases e : H L with
        | none => rfl
        | some u => exact absurd (s2 _ _ (s1 _ _ e)) (by rw [nL]; intro z; cases z)
      exact q _ L [] ((s1.trans s2).nw nL) hn upd_same ⟨rfl, fun i it y e => by simp at e⟩
    · rw [if_neg h2] at q
      walk_at "rd"
      exact q _ (s1.trans s2)
  rw [if_neg h1] at q
  walk_at "rd"
  refine isi_tup ((hR.same s0).same s1) ?_
  cases d with
  | s x =>
    dsimp only [isT] at q ⊢
    walk_at "rd"
    exact q _ s1
  | o =>
    dsimp only [isT] at q ⊢
    walk_at "rd"
    exact q _ s1
  | t ds =>
    obtain ⟨p, xs, rfl, hS, hRs⟩ := rep_t.mp hR
    have hS1 : SqT K H1 p xs := same_t s1 (same_t s0 hS)
    have hl := reps_len hRs
    have q1 := q.mono s1
    dsimp only [isT] at q q1 ⊢
    walk_at "rd"
    rw [show decide (k.txt = ("block" : Str)) = decide (k = .block) from kd_eq k .block]
    refine ite2 (fun h2 => ?_) (fun h2 => ?_)
    · rw [if_pos (of_decide_eq_true h2)] at q1
      walk_at "rd"
      exact ⟨p, sp, xs, ds, H0, deep, tests, ret, rfl, hS1, hRs, s0.trans s1, s1 _ _ hsp, q1⟩
    rw [if_neg (fun e => h2 (decide_eq_true e))] at q1
    walk_at "rd"
    rw [show decide (k.txt = ("function" : Str)) = decide (k = .function) from kd_eq k .function]
    refine ite2 (fun h3 => ?_) (fun h3 => ?_)
    · rw [if_pos (of_decide_eq_true h3)] at q1
      walk_at "rd"
      refine RD.ixT (.inl (.inl (s1 _ _ hsp))) at0 ?_
      walk_at "rd"
      refine ⟨sl3, fun s5 n5 => ?_⟩
      walk_at "rd"
      exact ⟨p, s5, xs, ds, H0, deep, 0, true, rfl, same_t ((Same.refl _).nw n5) hS1, hRs, (s0.trans s1).nw n5, upd_same, q1.mono ((Same.refl _).nw n5)⟩
    rw [if_neg (fun e => h3 (decide_eq_true e))] at q1
    walk_at "rd"
    rw [show decide (k.txt = ("things" : Str)) = decide (k = .things) from kd_eq k .things]
    refine ite2 (fun h4 => ?_) (fun h4 => ?_)
    · rw [if_pos (of_decide_eq_true h4)] at q1
      walk_at "rd"
      refine lenQt hS1 ?_
      walk_at "rd"
      refine ite2 (fun h5 => ?_) (fun h5 => ?_)
      · have := of_decide_eq_true h5
        rw [if_pos (show 3 < ds.length by omega)] at q1
        exact q1 _ (Same.refl _)
      have h6 : ¬ 3 < ds.length := fun z => h5 (decide_eq_true (by omega))
      rw [if_neg h6] at q1
      unfold tLc
      walk_at "rd"
      refine ⟨p, rfl, ⟨_, hS1⟩, fun DD hD => lc_its walk_tup (by rw [List.length_map]; exact hl) (by omega) hD (fun H2 s2 => same_t s2 hS1) (fun i it x H2 H3 hit s2 hy QQ qq => ?_) fun H2 ys s2 hL hI => q1 H2 DD ys s2 hD hL hI⟩
      obtain ⟨rfl, hx⟩ := hy
      obtain ⟨d, hd, hR2⟩ := reps_at hRs hx
      rw [List.getElem?_map, hd] at hit
      obtain rfl := Option.some.inj hit
      walk_at "rd"
      refine ⟨rfl, ?_⟩
      walk_at "rd"
      refine ⟨sl3, fun q3 n4 => ?_⟩
      have e3 : sp ≠ q3 := ne_of_none (s2 _ _ (s1 _ _ hsp)) n4
      exact qq _ _ ((Same.refl _).nw n4) ⟨q3, sp, x, rfl, upd_same, by rw [upd_ne e3]; exact s2 _ _ (s1 _ _ hsp), hR2⟩
    rw [if_neg (fun e => h4 (decide_eq_true e))] at q1
    walk_at "rd"
    exact ⟨k, p, sp, pl, xs, ds, H0, deep, tests, ret, pp, rfl, hS1, hRs, s0.trans s1, s1 _ _ hsp, hpl.same s1, q1⟩
theorem sc_is_block : FnScope ["thing", "place", "left", "kind", "part", "spot", "inner"] ["thing", "place"] (defScope (topS 16)) := ⟨rfl, rfl, rfl, by decide +kernel, rfl, by decide +kernel, by decide +kernel⟩
theorem ok_block (T : Txt K mg) (pc : PlC K C) (c__inner_parts : Cal P w K mg base 4 "_inner_parts" (spInner K C) []) {f : Addr} {fd : FuncData} (F : Fun K "is_block" "is_block" (topS 16) f fd) : FnOk P w K mg base CX0 5 f fd ["thing", "place"] (spBlock K C) := by
  refine F.ok sc_is_block (fun vs H Q E h => ?_) (fun cdv A outer s H vs Q E hr h => ?_)
  · obtain ⟨d, v, pl, pp, rfl, _⟩ := h
    rfl
  obtain ⟨d, v, pl, pp, rfl, hR, hpl, hz, q⟩ := h
  refine ⟨_, (pss_cons (ps_set (i := 2) sc_is_block.nd rfl (Or.inl rfl) (pe_lst (pa_cons (pe_tup (pa_cons pe_str (pa_cons (pv 0) (pa_cons (pe_tup (pa_cons pe_int (pa_cons (pe_fld (pv 1) rfl) (pa_cons pe_int pa_nil)))) pa_nil)))) pa_nil)))
      (pss_cons (ps_while PassesOwn.never (pt_truth (pv 2) (fun _ => rfl)) (pss_cons (ps_asg (pe_bm0 PySem.F.plainAttrs_list PySem.F.slot_list_pop PySem.F.type_list_pop mt_pop (pv 2)) (pg_tup rfl (pgs_cons (pg_name (i := 3) sc_is_block.nd rfl (Or.inl rfl)) (pgs_cons (pg_name (i := 4) sc_is_block.nd rfl (Or.inl rfl)) (pgs_cons (pg_name (i := 5) sc_is_block.nd rfl (Or.inl rfl)) pgs_nil)))))
      (pss_cons (ps_set (i := 6) sc_is_block.nd rfl (Or.inl rfl) (pe_c c__inner_parts hr (by decide) (by rfl) (pa_cons (pv 3) (pa_cons (pv 4) (pa_cons (pv 5) (pa_cons (pv 1) pa_nil))))))
      (pss_cons (ps_if (pt_cmpR op_isN1 (pv 6) pe_non (nomark _)) (pss_one (ps_ret pe_bl)) pss_nil)
      (pss_one (ps_expr (pe_bm PySem.F.plainAttrs_list PySem.F.slot_list_extend PySem.F.type_list_extend mt_extend (pv 2) (pa_cons (pv 6) pa_nil))))))))
      (pss_one (ps_ret pe_bl)))), ?_⟩
  have hpl' := hpl
  obtain ⟨dx, nc, ow, hpo, _⟩ := hpl'
  walk_at "rd"
  refine ⟨pl, C, dx, _, _, rfl, hpo, pc.cl, pc.n3, rfl, ?_⟩
  walk_at "rd"
  refine ⟨sl3, fun sp n1 => ?_⟩
  walk_at "rd"
  refine ⟨sl3, fun it0 n2 => ?_⟩
  walk_at "rd"
  refine ⟨sl1, fun l n3 => ?_⟩
  walk_at "rd"
  have s1 := ((Same.refl H).nw (o := .tup [.int 0, .bl pp.im, .int 0]) n1)
  have s2 := s1.nw (o := .tup [.str "block", v, .ref sp]) n2
  have nl : H l = none := none_of s2 n3
  have s3 := s2.nw (o := .lst [.ref it0]) n3
  have e1 : sp ≠ it0 := fun e => by rw [e, upd_same] at n2; cases n2
  have e2 : it0 ≠ l := fun e => by rw [e, upd_same] at n3; cases n3
  have e3 : sp ≠ l := fun e => by rw [← e, upd_ne e1, upd_same] at n3; cases n3
  refine ⟨fun m σ Hh => ∃ its ys o3 o4 o5 o6, σ = [some v, some (.ref pl), some (.ref l), o3, o4, o5, o6] ∧ Same H Hh ∧ Hh l = some (.lst ys) ∧ IReps K H Hh its ys ∧ isum its = m ∧ m ≤ 100000 ∧ its.all (okI pp) = okB pp d,
    ⟨sz d, [⟨.block, d, 0, pp.im, 0⟩], [.ref it0], none, none, none, none, rfl, s3, upd_same, ⟨rfl, fun i it y h1 h2 => ?_⟩, ?_, hz, ?_⟩, ?_⟩
  · cases i with
    | zero =>
      obtain rfl : (⟨.block, d, 0, pp.im, 0⟩ : Wk) = it := Option.some.inj h1
      obtain rfl : V.ref it0 = y := Option.some.inj h2
      exact ⟨it0, sp, v, rfl, by rw [upd_ne e2]; exact upd_same, by rw [upd_ne e3, upd_ne e1]; exact upd_same, hR⟩
    | succ j => simp at h1
  · simp [isum]
  · show (okI pp _ && true) = _
    rw [Bool.and_true]
    rfl
  rintro m σ Hh ⟨its, ys, o3, o4, o5, o6, rfl, sh, hL, hI, hm, hm2, ha⟩
  walk_at "rd"
  refine ⟨_, .inl ⟨ys, .inl (.inl hL), rfl⟩, ?_⟩
  by_cases hy : ys = []
  · subst hy
    have hi : its = [] := List.eq_nil_of_length_eq_zero hI.len
    subst hi
    have : okB pp d = true := ha.symm
    rw [this] at q
    walk_at "rd"
    exact q _ sh
  obtain ⟨its', it, y, rfl, hyl, hI', q0, sp0, x0, rfl, hq0, hsp0, hR0⟩ := hI.last hy
  rw [show (!ys.isEmpty) = true by cases ys with | nil => exact absurd rfl hy | cons _ _ => rfl]
  rw [if_pos rfl]
  refine ⟨fun σ' H' => ∃ m', m' < m ∧ _, fun σ' H' h => h, ?_⟩
  walk_at "rd"
  refine ⟨.inl ⟨rfl, _, .inl (.inl hL)⟩, l, ys, _, rfl, rfl, hL, hyl, ?_⟩
  have ts : TStay Hh (upd Hh l (.lst ys.dropLast)) := (TStay.of (Same.refl Hh)).lst hL
  have sH2 : Same H (upd Hh l (.lst ys.dropLast)) := sh.mt nl
  refine RD.unp (.inl (.inl (ts _ _ hq0))) rfl ?_
  walk_at "rd"
  refine ⟨it, x0, sp0, pl, H, pp, rfl, hR0, sH2, ts _ _ hsp0, hpl.same sH2, ?_⟩
  have hsum : isum (its' ++ [it]) = isum its' + sz it.d := by rw [isum_app]; simp [isum]
  have hall : (its' ++ [it]).all (okI pp) = (its'.all (okI pp) && okI pp it) := by rw [List.all_append]; show (_ && (_ && true)) = _; rw [Bool.and_true]
  cases e : innerM pp it with
  | none =>
    intro H3 hs3
    walk_at "rd"
    have : okB pp d = false := by rw [← ha, hall, okI_eq, e]; exact Bool.and_false _
    rw [this] at q
    exact q _ (sH2.trans hs3)
  | some lst =>
    intro H3 L zs hs3 nL hL3 hI3
    have hlt := inner_sz e
    have hl3 : H3 l = some (.lst ys.dropLast) := hs3 _ _ upd_same
    have ln1 := hI'.len
    have ln2 := hI3.len
    have b1 : its'.length ≤ isum its' := isum_len its'
    have b2 : lst.length ≤ isum lst := isum_len lst
    walk_at "rd"
    refine ⟨.inl ⟨rfl, _, .inl (.inl hl3)⟩, ?_⟩
    walk_at "rd"
    refine ⟨l, L, ys.dropLast, zs, rfl, rfl, hl3, hL3, by rw [sizeLine_eq]; omega, ?_⟩
    have ts3 : TStay Hh (upd H3 l (.lst (ys.dropLast ++ zs))) := (ts.trans (TStay.of hs3)).lst hl3
    refine ⟨isum (its' ++ lst), ?_, its' ++ lst, ys.dropLast ++ zs, _, _, _, _, rfl, (sH2.trans hs3).mt nl, upd_same, (hI'.stay ts3).app (hI3.stay ((TStay.of (Same.refl _)).lst hl3)), rfl, ?_, ?_⟩
    · rw [isum_app]
      omega
    · rw [isum_app]
      omega
    · rw [List.all_append, ← ha, hall, okI_eq pp it, e]
end
end SF

set_option Elab.async false
set_option linter.all false
set_option maxRecDepth 100000
set_option maxHeartbeats 4000000
namespace RD
open PySem PySem.Spec PyProof.Rows L2 G0
theorem rng1 {ta : TA} {σ : L2.St} {H : Hp} {R : It → Hp → Prop} (h : ta σ H fun vs H1 => ∃ j : Int, vs = [.int j] ∧ -(2 ^ 62) ≤ j ∧ j < 2 ^ 62 ∧ R (Itr 0 j.toNat) H1) : iRng1 ta σ H R := h
end RD
namespace SF
open PySem PySem.Spec PyProof.Rows L2 G0
open C8 (Cal Mak Met pe_c pe_mk pe_mt pe_mt0 pe_gc)
section
variable {P : Program} {w : World} {K : PySem.W.Frag} {mg : Str → Option Value} {base : Heap}
local macro_rules | `(tactic| walk_at "rd1") => `(tactic| first
  | (with_reducible refine RD.seq ?_) | (with_reducible refine RD.next ?_) | (with_reducible refine RD.ifS ?_) | (with_reducible refine RD.ret ?_) | (with_reducible refine RD.retN ?_) | (with_reducible refine RD.drop ?_) | (with_reducible refine RD.asg ?_) | (with_reducible refine RD.gname ?_)
  | ((with_reducible apply RD.var); exact rfl) | (with_reducible refine RD.c_ ?_) | (with_reducible refine RD.op ?_) | (with_reducible refine RD.un ?_) | (with_reducible refine RD.cb ?_) | (with_reducible refine RD.cons ?_) | (with_reducible refine RD.nil ?_) | (with_reducible refine RD.tup ?_) | (with_reducible refine RD.lst ?_)
  | (with_reducible refine RD.B_ ?_) | (with_reducible refine RD.test ?_) | (with_reducible refine RD.exB ?_) | (with_reducible refine RD.exI ?_) | (with_reducible refine RD.and_ ?_) | (with_reducible refine RD.or_ ?_) | (with_reducible refine RD.not_ ?_) | (with_reducible refine RD.andV ?_) | (with_reducible refine RD.orV ?_) | (with_reducible refine RD.notV ?_) | (with_reducible refine RD.if_ ?_)
  | (with_reducible refine RD.ifT ?_) | (with_reducible refine RD.ifF ?_) | (with_reducible refine RD.ifNT ?_) | (with_reducible refine RD.ifNF ?_) | (with_reducible refine RD.yes ?_) | (with_reducible refine RD.sl ?_) | (with_reducible refine RD.noPart ?_) | (with_reducible refine RD.part ?_) | (with_reducible refine RD.i0 ?_) | (with_reducible refine RD.eqS ?_) | (with_reducible refine RD.eqI ?_) | (with_reducible refine RD.neS ?_) | (with_reducible refine RD.neI ?_)
  | (with_reducible refine RD.isN_n ?_) | (with_reducible refine RD.isN_r ?_) | (with_reducible refine RD.isN_s ?_) | (with_reducible refine RD.isN_b ?_) | (with_reducible refine RD.isN_i ?_) | (with_reducible refine RD.notN_n ?_) | (with_reducible refine RD.notN_r ?_) | (with_reducible refine RD.notN_s ?_)
  | (with_reducible refine RD.call ?_) | (with_reducible refine RD.make ?_) | (with_reducible refine RD.gcons ?_) | (with_reducible refine RD.gnil ?_) | (with_reducible refine RD.bm ?_) | (with_reducible refine RD.bm0 ?_) | (with_reducible refine RD.dget ?_) | (with_reducible refine RD.din ?_) | (with_reducible refine RD.tfld ?_) | (with_reducible refine RD.then_ ?_) | (with_reducible refine RD.chain ?_) | (with_reducible refine RD.itup ?_) | (with_reducible refine RD.ikeys ?_) | (with_reducible refine RD.ivals ?_) | (with_reducible refine RD.iitems ?_) | (with_reducible refine RD.lset ?_) | (with_reducible refine RD.ilist ?_) | ((with_reducible apply RD.aug); exact rfl))
local macro_rules | `(tactic| walk_at "rd") => `(tactic| repeat walk_at "rd1")

theorem sc__is_method : FnScope ["thing"] ["thing"] (defScope (topS 32)) := ⟨rfl, rfl, rfl, by decide +kernel, rfl, by decide +kernel, by decide +kernel⟩
theorem ok_is_method (T : Txt K mg) (c_is_names : Cal P w K mg base 2 "is_names" (spIsNames K) []) {f : Addr} {fd : FuncData} (F : Fun K "_is_method" "_is_method" (topS 32) f fd) : FnOk P w K mg base CX0 3 f fd ["thing"] (spMeth K) := by
  refine F.ok sc__is_method (fun vs H Q E h => ?_) (fun cdv A outer s H vs Q E hr h => ?_)
  · obtain ⟨d, v, rfl, _⟩ := h
    rfl
  obtain ⟨d, v, rfl, hR, q⟩ := h
  refine ⟨_, (pss_one (ps_ret (pe_and (pe_callB call_isi (by rfl) T.b_isinstance (by decide +kernel) (pa_cons (pv 0) (pa_cons (pe_bltn (v := .ty "tuple") (by rfl) T.b_tuple (by decide +kernel) rfl) pa_nil))) (pe_and (pe_cmpR op_eq (pe_callB call_lenQ (by rfl) T.b_len PySem.boot_len (pa_cons (pv 0) pa_nil)) pe_int (nomark _)) (pe_one (pe_c c_is_names hr (by decide) (by rfl) (pa_cons (pe_ix ix_tup (pv 0) pe_int (fun _ _ => rfl)) (pa_cons pe_int (pa_cons (pe_gc (by rfl) T.g_MOST_PARAMS) pa_nil))))))))), ?_⟩
  walk_at "rd"
  refine isi_tup hR ?_
  cases d with
  | s x =>
    dsimp only [isT]
    walk_at "rd"
    exact q _ (Same.refl _)
  | o =>
    dsimp only [isT]
    walk_at "rd"
    exact q _ (Same.refl _)
  | t ds =>
    obtain ⟨p, vs, rfl, hS, hRs⟩ := rep_t.mp hR
    have hl := reps_len hRs
    dsimp only [isT]
    walk_at "rd"
    refine lenQt hS ?_
    walk_at "rd"
    by_cases h2 : ((vs.length : Nat) : Int) = 2
    · rw [decide_eq_true h2]
      walk_at "rd"
      obtain ⟨a, b, rfl⟩ : ∃ a b, ds = [a, b] := by
        match ds, hl with
        | [a, b], _ => exact ⟨a, b, rfl⟩
        | [], hl => exact absurd hl (by simp only [List.length_nil]; omega)
        | [_], hl => exact absurd hl (by simp only [List.length_cons, List.length_nil]; omega)
        | _ :: _ :: _ :: _, hl => exact absurd hl (by simp only [List.length_cons]; omega)
      obtain ⟨va, r, rfl, h3, h4⟩ := reps_cons.mp hRs
      refine RD.ixT hS at0 ?_
      walk_at "rd"
      exact ⟨a, va, 0, 3, rfl, by decide, h3, q⟩
    · rw [decide_eq_false h2]
      walk_at "rd"
      have : methB (.t ds) = false := by
        match ds, hl with
        | [a, b], hl => exact absurd hl (by simp only [List.length_cons, List.length_nil]; omega)
        | [], _ => rfl
        | [_], _ => rfl
        | _ :: _ :: _ :: _, _ => rfl
      rw [this] at q
      exact q _ (Same.refl _)
theorem sc__is_fields : FnScope ["thing", "words"] ["thing"] (defScope (topS 30)) := ⟨rfl, rfl, rfl, by decide +kernel, rfl, by decide +kernel, by decide +kernel⟩
theorem ok_is_fields (T : Txt K mg) (c_is_names : Cal P w K mg base 2 "is_names" (spIsNames K) []) (c_is_name_dict : Cal P w K mg base 2 "is_name_dict" (spNameDict K) []) {f : Addr} {fd : FuncData} (F : Fun K "_is_fields" "_is_fields" (topS 30) f fd) : FnOk P w K mg base CX0 3 f fd ["thing"] (spDict K fieldsB) := by
  refine F.ok sc__is_fields (fun vs H Q E h => ?_) (fun cdv A outer s H vs Q E hr h => ?_)
  · obtain ⟨a, kds, kvs, rfl, _⟩ := h
    rfl
  obtain ⟨a, kds, kvs, rfl, ha, hD, q⟩ := h
  refine ⟨_, (pss_cons (ps_if (pt_not (pt_val (pe_c c_is_name_dict hr (by decide) (by rfl) (pa_cons (pv 0) (pa_cons (pe_gc (by rfl) T.g_MOST_FIELDS) pa_nil))))) (pss_one (ps_ret pe_bl)) pss_nil)
      (pss_one (ps_ret (pe_callB (cr_all rfl) (by rfl) T.b_all (by decide +kernel) (pa_cons (pe_lock (pe_lc (own := [("words", 1)]) (tt := tYes) rfl sc__is_fields.nd (pi_values (pv 0)) (blkOk_by (N := ["thing", "words"]) (sc := defScope (topS 30)) (by decide +kernel)) (fun _ _ _ _ _ => (pg_name (i := 1) sc__is_fields.nd rfl (Or.inl rfl))) (fun _ _ _ _ _ => pts_nil) (fun _ _ _ _ _ => (pe_c c_is_names hr (by decide) (by rfl) (pa_cons (pv 1) (pa_cons pe_int (pa_cons (pe_gc (by rfl) T.g_MOST_WORDS) pa_nil))))))) pa_nil))))), ?_⟩
  walk_at "rd"
  have hk := hD.keys
  have hn := hD.len
  have hf := hD.few
  refine ⟨a, kvs, 3, rfl, ha, by decide, fun i kv e x ex => dkey hD e ex, fun H1 s1 => ?_⟩
  rw [nameKs_eq hk]
  unfold fieldsB at q
  walk_at "rd"
  refine ite2 (fun h1 => ?_) (fun h1 => ?_)
  · walk_at "rd"
    rw [← Bool.and_assoc, show (decide (kds.length ≤ 3) && kds.all fun q => nameS q.1) = false from nt h1, Bool.false_and] at q
    exact q _ s1
  rw [← Bool.and_assoc, show (decide (kds.length ≤ 3) && kds.all fun q => nameS q.1) = true from nf h1, Bool.true_and] at q
  have ha1 := s1 _ _ ha
  walk_at "rd"
  refine lockE ha1 trivial fun od => ?_
  unfold tLc
  walk_at "rd"
  refine ⟨a, od, kvs, rfl, upd_same, fun DD hDD => lc_map walk_values (ys := kds.map fun kv => V.bl (namesD 1 4 kv.2)) (by rw [List.length_map, hn]) (by omega) hDD (fun H' s' => s' _ _ upd_same) (fun i y hy => ?_) fun H2 s2 hL => ?_⟩
  · rintro x H2 H3 s2 ⟨rfl, k, hkv⟩ QQ qq
    obtain ⟨kd, hkd, rfl⟩ := Option.map_eq_some_iff.mp (by rw [← List.getElem?_map]; exact hy)
    walk_at "rd"
    refine ⟨rfl, ?_⟩
    walk_at "rd"
    have hR : Rep K H kd.2 x := reps_get hD.vals (i := i) (by rw [List.getElem?_map, hkd]; rfl) (by rw [List.getElem?_map, hkv]; rfl)
    exact ⟨kd.2, x, 1, 4, rfl, by decide, ((hR.same s1).lk (LK.lock ha1)).same s2, fun H' s' => qq _ s'⟩
  · have hDa : DD ≠ a := fun e => by
      rw [e, upd_same] at hDD
      cases hDD
    refine ⟨s2 _ _ upd_same, ?_⟩
    walk_at "rd"
    refine ⟨DD, kds.map fun kv => namesD 1 4 kv.2, rfl, SqL.of (by rw [upd_ne hDa, hL, List.map_map]; rfl), ?_⟩
    rw [List.all_map]
    exact q _ (s1.trans (s2.unlock ha1))
theorem sc__is_methods : FnScope ["thing", "method"] ["thing"] (defScope (topS 31)) := ⟨rfl, rfl, rfl, by decide +kernel, rfl, by decide +kernel, by decide +kernel⟩
theorem ok_is_methods (T : Txt K mg) (c__is_method : Cal P w K mg base 3 "_is_method" (spMeth K) []) (c_is_name_dict : Cal P w K mg base 2 "is_name_dict" (spNameDict K) []) {f : Addr} {fd : FuncData} (F : Fun K "_is_methods" "_is_methods" (topS 31) f fd) : FnOk P w K mg base CX0 4 f fd ["thing"] (spDict K methsB) := by
  refine F.ok sc__is_methods (fun vs H Q E h => ?_) (fun cdv A outer s H vs Q E hr h => ?_)
  · obtain ⟨a, kds, kvs, rfl, _⟩ := h
    rfl
  obtain ⟨a, kds, kvs, rfl, ha, hD, q⟩ := h
  refine ⟨_, (pss_cons (ps_if (pt_not (pt_val (pe_c c_is_name_dict hr (by decide) (by rfl) (pa_cons (pv 0) (pa_cons (pe_gc (by rfl) T.g_MOST_METHODS) pa_nil))))) (pss_one (ps_ret pe_bl)) pss_nil)
      (pss_one (ps_ret (pe_callB (cr_all rfl) (by rfl) T.b_all (by decide +kernel) (pa_cons (pe_lock (pe_lc (own := [("method", 1)]) (tt := tYes) rfl sc__is_methods.nd (pi_values (pv 0)) (blkOk_by (N := ["thing", "method"]) (sc := defScope (topS 31)) (by decide +kernel)) (fun _ _ _ _ _ => (pg_name (i := 1) sc__is_methods.nd rfl (Or.inl rfl))) (fun _ _ _ _ _ => pts_nil) (fun _ _ _ _ _ => (pe_c c__is_method hr (by decide) (by rfl) (pa_cons (pv 1) pa_nil))))) pa_nil))))), ?_⟩
  walk_at "rd"
  have hk := hD.keys
  have hn := hD.len
  have hf := hD.few
  refine ⟨a, kvs, 5, rfl, ha, by decide, fun i kv e x ex => dkey hD e ex, fun H1 s1 => ?_⟩
  rw [nameKs_eq hk]
  unfold methsB at q
  walk_at "rd"
  refine ite2 (fun h1 => ?_) (fun h1 => ?_)
  · walk_at "rd"
    rw [← Bool.and_assoc, show (decide (kds.length ≤ 5) && kds.all fun q => nameS q.1) = false from nt h1, Bool.false_and] at q
    exact q _ s1
  rw [← Bool.and_assoc, show (decide (kds.length ≤ 5) && kds.all fun q => nameS q.1) = true from nf h1, Bool.true_and] at q
  have ha1 := s1 _ _ ha
  walk_at "rd"
  refine lockE ha1 trivial fun od => ?_
  unfold tLc
  walk_at "rd"
  refine ⟨a, od, kvs, rfl, upd_same, fun DD hDD => lc_map walk_values (ys := kds.map fun kv => V.bl (methB kv.2)) (by rw [List.length_map, hn]) (by omega) hDD (fun H' s' => s' _ _ upd_same) (fun i y hy => ?_) fun H2 s2 hL => ?_⟩
  · rintro x H2 H3 s2 ⟨rfl, k, hkv⟩ QQ qq
    obtain ⟨kd, hkd, rfl⟩ := Option.map_eq_some_iff.mp (by rw [← List.getElem?_map]; exact hy)
    walk_at "rd"
    refine ⟨rfl, ?_⟩
    walk_at "rd"
    have hR : Rep K H kd.2 x := reps_get hD.vals (i := i) (by rw [List.getElem?_map, hkd]; rfl) (by rw [List.getElem?_map, hkv]; rfl)
    exact ⟨kd.2, x, rfl, ((hR.same s1).lk (LK.lock ha1)).same s2, fun H' s' => qq _ s'⟩
  · have hDa : DD ≠ a := fun e => by
      rw [e, upd_same] at hDD
      cases hDD
    refine ⟨s2 _ _ upd_same, ?_⟩
    walk_at "rd"
    refine ⟨DD, kds.map fun kv => methB kv.2, rfl, SqL.of (by rw [upd_ne hDa, hL, List.map_map]; rfl), ?_⟩
    rw [List.all_map]
    exact q _ (s1.trans (s2.unlock ha1))
theorem sc_is_class_form : FnScope ["thing", "parent", "mark", "fields", "methods"] ["thing"] (defScope (topS 27)) := ⟨rfl, rfl, rfl, by decide +kernel, rfl, by decide +kernel, by decide +kernel⟩
theorem ok_is_class (T : Txt K mg) (c_is_name : Cal P w K mg base 1 "is_name" (spIsName K) []) (c__is_fields : Cal P w K mg base 3 "_is_fields" (spDict K fieldsB) []) (c__is_methods : Cal P w K mg base 4 "_is_methods" (spDict K methsB) []) {f : Addr} {fd : FuncData} (F : Fun K "is_class_form" "is_class_form" (topS 27) f fd) : FnOk P w K mg base CX0 5 f fd ["thing"] (spClass K) := by
  refine F.ok sc_is_class_form (fun vs H Q E h => ?_) (fun cdv A outer s H vs Q E hr h => ?_)
  · obtain ⟨c, v, fa, ma, rfl, _⟩ := h
    rfl
  obtain ⟨c, v, fa, ma, rfl, ⟨p, fk, mk, rfl, hS, hfa, hF, hma, hM, hpl⟩, q⟩ := h
  refine ⟨_, (pss_cons (ps_if ((pw_or (pt_not (pt_val (pe_callB call_isi (by rfl) T.b_isinstance (by decide +kernel) (pa_cons (pv 0) (pa_cons (pe_bltn (v := .ty "tuple") (by rfl) T.b_tuple (by decide +kernel) rfl) pa_nil))))) (pw_or1 (pt_cmpR op_ne (pe_callB call_lenQ (by rfl) T.b_len PySem.boot_len (pa_cons (pv 0) pa_nil)) pe_int (nomark _))))).pt (pss_one (ps_ret pe_bl)) pss_nil)
      (pss_cons (ps_asg (pv 0) (pg_tup rfl (pgs_cons (pg_name (i := 1) sc_is_class_form.nd rfl (Or.inl rfl)) (pgs_cons (pg_name (i := 2) sc_is_class_form.nd rfl (Or.inl rfl)) (pgs_cons (pg_name (i := 3) sc_is_class_form.nd rfl (Or.inl rfl)) (pgs_cons (pg_name (i := 4) sc_is_class_form.nd rfl (Or.inl rfl)) pgs_nil))))))
      (pss_cons (ps_if ((pw_and (pt_cmpR op_notN1 (pv 1) pe_non (nomark _)) (pw_and1 (pt_not (pt_val (pe_c c_is_name hr (by decide) (by rfl) (pa_cons (pv 1) pa_nil))))))).pt (pss_one (ps_ret pe_bl)) pss_nil)
      (pss_one (ps_ret (pe_and (pe_cmpR op_in_seq (pv 2) (pe_tup (pa_cons pe_str (pa_cons pe_str pa_nil))) (by rfl)) (pe_and (pe_c c__is_fields hr (by decide) (by rfl) (pa_cons (pv 3) pa_nil)) (pe_one (pe_c c__is_methods hr (by decide) (by rfl) (pa_cons (pv 4) pa_nil)))))))))), ?_⟩
  walk_at "rd"
  refine isi_go (ty_t hS) k_tt ?_
  walk_at "rd"
  refine lenQt hS ?_
  walk_at "rd"
  rw [decide_eq_true (show (([optV c.par, V.str c.mark, V.ref fa, V.ref ma].length : Nat) : Int) = 4 from rfl)]
  walk_at "rd"
  refine RD.unp hS rfl ?_
  walk_at "rd"
  obtain ⟨par, mark, flds, mths⟩ := c
  dsimp only at hS hF hM hpl q ⊢
  unfold classB at q
  dsimp only at q
  cases par with
  | none =>
    dsimp only [optV]
    walk_at "rd"
    rw [show parB none = true from rfl, Bool.true_and] at q
    refine ⟨sl2, fun p1 np1 => RD.inT (.inl (.inl upd_same)) rfl rfl ?_⟩
    have s1 := (Same.refl H).nw (o := .tup [.str "open", .str "closed"]) np1
    rw [mark_in]
    walk_at "rd"
    refine ite2 (fun h2 => ?_) (fun h2 => ?_)
    · rw [h2, Bool.true_and] at q
      walk_at "rd"
      refine ⟨fa, flds, fk, rfl, s1 _ _ hfa, hF.lk (.of s1), fun H2 s2 => ?_⟩
      walk_at "rd"
      refine ite2 (fun h3 => ?_) (fun h3 => ?_)
      · rw [h3, Bool.true_and] at q
        walk_at "rd"
        exact ⟨ma, mths, mk, rfl, s2 _ _ (s1 _ _ hma), (hM.lk (.of s1)).lk (.of s2), fun H3 s3 => q _ ((s1.trans s2).trans s3)⟩
      · rw [eq_false_of_ne_true h3, Bool.false_and] at q
        exact q _ (s1.trans s2)
    · rw [eq_false_of_ne_true h2, Bool.false_and] at q
      exact q _ s1
  | some z =>
    dsimp only [optV]
    walk_at "rd"
    refine ⟨.s z, .str z, rfl, rep_s.mpr ⟨rfl, hpl⟩, ?_⟩
    walk_at "rd"
    refine ite2 (fun h1 => ?_) (fun h1 => ?_)
    · rw [show parB (some z) = false from nt h1, Bool.false_and] at q
      walk_at "rd"
      exact q _ (Same.refl _)
    rw [show parB (some z) = true from nf h1, Bool.true_and] at q
    walk_at "rd"
    refine ⟨sl2, fun p1 np1 => RD.inT (.inl (.inl upd_same)) rfl rfl ?_⟩
    have s1 := (Same.refl H).nw (o := .tup [.str "open", .str "closed"]) np1
    rw [mark_in]
    walk_at "rd"
    refine ite2 (fun h2 => ?_) (fun h2 => ?_)
    · rw [h2, Bool.true_and] at q
      walk_at "rd"
      refine ⟨fa, flds, fk, rfl, s1 _ _ hfa, hF.lk (.of s1), fun H2 s2 => ?_⟩
      walk_at "rd"
      refine ite2 (fun h3 => ?_) (fun h3 => ?_)
      · rw [h3, Bool.true_and] at q
        walk_at "rd"
        exact ⟨ma, mths, mk, rfl, s2 _ _ (s1 _ _ hma), (hM.lk (.of s1)).lk (.of s2), fun H3 s3 => q _ ((s1.trans s2).trans s3)⟩
      · rw [eq_false_of_ne_true h3, Bool.false_and] at q
        exact q _ (s1.trans s2)
    · rw [eq_false_of_ne_true h2, Bool.false_and] at q
      exact q _ s1
theorem sc__has_parent_among : FnScope ["cls", "classes", "parent"] ["cls", "classes"] (defScope (topS 47)) := ⟨rfl, rfl, rfl, by decide +kernel, rfl, by decide +kernel, by decide +kernel⟩
theorem ok_among (T : Txt K mg) {f : Addr} {fd : FuncData} (F : Fun K "_has_parent_among" "_has_parent_among" (topS 47) f fd) : FnOk P w K mg base CX0 1 f fd ["cls", "classes"] (spAmong K) := by
  refine F.ok sc__has_parent_among (fun vs H Q E h => ?_) (fun cdv A outer s H vs Q E hr h => ?_)
  · obtain ⟨c, v, fa, ma, a, rows, kvs, rfl, _⟩ := h
    rfl
  obtain ⟨c, v, fa, ma, a, rows, kvs, rfl, ⟨p, fk, mk, rfl, hS, hfa, hF, hma, hM, hpl⟩, ha, hC, q⟩ := h
  have hu := hu_of hr
  refine ⟨_, (pss_cons (ps_set (i := 2) sc__has_parent_among.nd rfl (Or.inl rfl) (pe_ix ix_tup (pv 0) pe_int (fun _ _ => rfl)))
      (pss_one (ps_ret (pe_or (pe_cmpR op_isN1 (pv 2) pe_non (nomark _)) (pe_one (pe_and (pe_cmp (pc_din hu (pv 2) (pv 1))) (pe_one (pe_cmpR op_eq (pe_ix ix_tup (pe_dget hu (pv 1) (pv 2) (fun _ _ => rfl)) pe_int (fun _ _ => rfl)) pe_str (nomark _))))))))), ?_⟩
  walk_at "rd"
  refine RD.ixT hS at0 ?_
  walk_at "rd"
  obtain ⟨par, mark, flds, mths⟩ := c
  dsimp only at hS hF hM hpl q ⊢
  unfold amongB at q
  dsimp only at q
  cases par with
  | none =>
    dsimp only [optV]
    walk_at "rd"
    exact q
  | some z =>
    dsimp only [optV]
    walk_at "rd"
    dsimp only at q
    rcases hC.look z with ⟨e1, e2⟩ | ⟨c2, v2, fa2, ma2, e1, e2, ⟨p2, fk2, mk2, rfl, hS2, _⟩, _⟩
    · refine ⟨a, none, rfl, by rw [← e2]; exact DGet_rd ha, ?_⟩
      rw [e1] at q
      dsimp only [Option.isSome]
      walk_at "rd"
      exact q
    · refine ⟨a, some (.ref p2), rfl, by rw [← e2]; exact DGet_rd ha, ?_⟩
      rw [e1] at q
      dsimp only [Option.isSome]
      walk_at "rd"
      refine ⟨a, .ref p2, rfl, by rw [← e2]; exact DGet_rd ha, ?_⟩
      walk_at "rd"
      refine RD.ixT hS2 at1 ?_
      walk_at "rd"
      exact q
theorem sc__has_ring : FnScope ["classes", "name", "above", "_"] ["classes"] (defScope (topS 48)) := ⟨rfl, rfl, rfl, by decide +kernel, rfl, by decide +kernel, by decide +kernel⟩
theorem ok_ring (T : Txt K mg) {f : Addr} {fd : FuncData} (F : Fun K "_has_ring" "_has_ring" (topS 48) f fd) : FnOk P w K mg base CX0 1 f fd ["classes"] (spRing K) := by
  refine F.ok sc__has_ring (fun vs H Q E h => ?_) (fun cdv A outer s H vs Q E hr h => ?_)
  · obtain ⟨a, rows, kvs, rfl, _⟩ := h
    rfl
  obtain ⟨a, rows, kvs, rfl, ha, hC, hA, q⟩ := h
  have hu := hu_of hr
  have hn := hC.len
  have hf := hC.few
  refine ⟨_, (pss_cons (ps_lock (ps_for PassesOwn.never rfl (pi_keys (pv 0)) (pg_name (i := 1) sc__has_ring.nd rfl (Or.inl rfl)) (pss_cons (ps_set (i := 2) sc__has_ring.nd rfl (Or.inl rfl) (pv 1))
      (pss_cons (ps_for PassesOwn.never rfl (pi_range1 (by rfl) T.b_range (pa_cons (pe_callB call_lenR (by rfl) T.b_len PySem.boot_len (pa_cons (pv 0) pa_nil)) pa_nil)) (pg_name (i := 3) sc__has_ring.nd rfl (Or.inl rfl)) (pss_one (ps_if (pt_cmpR op_notN1 (pv 2) pe_non (nomark _)) (pss_one (ps_set (i := 2) sc__has_ring.nd rfl (Or.inl rfl) (pe_ix ix_tup (pe_dget hu (pv 0) (pv 2) (fun _ _ => rfl)) pe_int (fun _ _ => rfl)))) pss_nil)))
      (pss_one (ps_if (pt_cmpR op_notN1 (pv 2) pe_non (nomark _)) (pss_one (ps_ret pe_bl)) pss_nil))))))
      (pss_one (ps_ret pe_bl))), ?_⟩
  walk_at "rd"
  refine lockS ha trivial fun od => ?_
  have hu2 : (upd H a (.frz od (.dK kvs))) a = some (.frz od (.dK kvs)) := upd_same
  have hC2 := hC.lock (o := od) ha
  have hb : Same H (upd (upd H a (.frz od (.dK kvs))) a (.dK kvs)) := (Same.refl (upd H a (.frz od (.dK kvs)))).unlock ha
  revert hu2 hC2 hb
  generalize upd H a (.frz od (.dK kvs)) = H1
  intro hu2 hC2 hb
  unfold tFor
  walk_at "rd"
  refine ⟨a, od, rfl, .inl ⟨kvs, hu2, for_it walk_keys (fun i σ H' => ∃ o1 o2 o3, σ = [some (.ref a), o1, o2, o3] ∧ H' = H1 ∧ ∀ (j : Nat) (r : Str × Cl), j < i → rows[j]? = some r → climb rows rows.length (some r.1) = none) ⟨none, none, none, rfl, rfl, fun j r h => absurd h (Nat.not_lt_zero j)⟩ (fun i σ H' _ ⟨_, _, _, _, e, _⟩ => by rw [e]; exact hu2) (fun i x σ H2 H3 hi hP hY => ?_) fun σ H2 hP => ?_⟩⟩
  · obtain ⟨o1, o2, o3, rfl, rfl, hP⟩ := hP
    obtain ⟨rfl, k, v, hkv, rfl⟩ := hY
    obtain ⟨r, hr0, hk⟩ : ∃ r, rows[i]? = some r ∧ k = Sum.inr r.1 := by
      have e : (kvs.map (·.1))[i]? = some k := by rw [List.getElem?_map, hkv]; rfl
      rw [hC.keys, List.getElem?_map] at e
      obtain ⟨r, h1, h2⟩ := Option.map_eq_some_iff.mp e
      exact ⟨r, h1, h2.symm⟩
    subst hk
    have hin := climb_in hA (rowAt_of (List.mem_of_getElem? hr0))
    walk_at "rd"
    refine RD.rng1 ?_
    walk_at "rd"
    refine ⟨a, kvs, rfl, .inr ⟨od, hu2⟩, ?_⟩
    walk_at "rd"
    refine ⟨_, rfl, by omega, by omega, ?_⟩
    rw [show ((kvs.length : Nat) : Int).toNat = rows.length by rw [Int.toNat_natCast, hn]]
    refine for_range (lo := 0) (n := rows.length) (fun j σ H' => ∃ o3, σ = [some (.ref a), some (.str r.1), some (optV (climb rows j (some r.1))), o3] ∧ H' = H3) ⟨o3, rfl, rfl⟩ (fun j σ H' hj hP2 => ?_) fun σ H' hP2 => ?_
    · obtain ⟨o4, rfl, rfl⟩ := hP2
      walk_at "rd"
      cases e : climb rows j (some r.1) with
      | none =>
        dsimp only [optV]
        walk_at "rd"
        have e2 : climb rows (j + 1) (some r.1) = none := by show up rows (climb rows j (some r.1)) = none; rw [e]; rfl
        exact ⟨_, by rw [e2]; rfl, rfl⟩
      | some z =>
        dsimp only [optV]
        walk_at "rd"
        rcases hC2.look z with ⟨e1, e2⟩ | ⟨c2, v2, fa2, ma2, e1, e2, ⟨p2, fk2, mk2, rfl, hS2, _⟩, _⟩
        · have := hin j z e
          rw [e1] at this
          cases this
        · refine ⟨a, .ref p2, rfl, by rw [← e2]; exact DGet_rd (.inr ⟨od, hu2⟩), ?_⟩
          walk_at "rd"
          refine RD.ixT hS2 at0 ?_
          walk_at "rd"
          have e3 : climb rows (j + 1) (some r.1) = c2.par := by show up rows (climb rows j (some r.1)) = _; rw [e]; show (rowAt rows z).bind (·.par) = _; rw [e1]; rfl
          exact ⟨_, by rw [e3]; rfl, rfl⟩
    · obtain ⟨o4, rfl, rfl⟩ := hP2
      walk_at "rd"
      cases e : climb rows rows.length (some r.1) with
      | none =>
        dsimp only [optV]
        walk_at "rd"
        refine ⟨_, _, _, rfl, rfl, fun j r2 hj hr2 => ?_⟩
        by_cases hji : j = i
        · subst hji
          rw [hr0] at hr2
          rw [← Option.some.inj hr2]
          exact e
        · exact hP j r2 (by omega) hr2
      | some z =>
        dsimp only [optV]
        walk_at "rd"
        have er : ringB rows = true := List.any_eq_true.mpr ⟨r, List.mem_of_getElem? hr0, by rw [e]; rfl⟩
        rw [er] at q
        exact ⟨hu2, q _ hb⟩
  · obtain ⟨o1, o2, o3, rfl, rfl, hP⟩ := hP
    refine ⟨hu2, ?_⟩
    walk_at "rd"
    have er : ringB rows = false := by
      unfold ringB
      rw [List.any_eq_false]
      intro r hr
      obtain ⟨j, hj, e⟩ := List.mem_iff_getElem.mp hr
      rw [hP j r (by rw [hn]; exact hj) (by rw [List.getElem?_eq_getElem hj, e])]
      exact Bool.false_ne_true
    rw [er] at q
    exact q _ hb
end
end SF

set_option Elab.async false
set_option linter.all false
set_option maxRecDepth 100000
set_option maxHeartbeats 4000000
namespace SF
open PySem PySem.Spec PyProof.Rows L2 G0
open C8 (Cal Mak Met pe_c pe_mk pe_mt pe_mt0 pe_gc)
def spClasses (K : PySem.W.Frag) : Sp := fun vs H Q _ => ∃ (a : Addr) (rows : Cls8) (kvs : List (Key × V)), vs = [.ref a] ∧ H a = some (.dK kvs) ∧ CsRep K H rows a kvs ∧ ∀ H', Same H H' → Q (.bl (classesB rows)) H'
theorem ckey {K : PySem.W.Frag} {H : Hp} {rows : Cls8} {a : Addr} {kvs : List (Key × V)} (h : CsRep K H rows a kvs) {i : Nat} {kv : Key × V} (e : kvs[i]? = some kv) {x : Str} (ex : kv.1 = .inr x) : x.length ≤ 1000 := by
  have e1 : (kvs.map (·.1))[i]? = some (.inr x) := by rw [List.getElem?_map, e, ← ex]; rfl
  rw [h.keys, List.getElem?_map] at e1
  obtain ⟨q, hq, e2⟩ := Option.map_eq_some_iff.mp e1
  cases e2
  exact h.small q (List.mem_of_getElem? hq)
section
variable {P : Program} {w : World} {K : PySem.W.Frag} {mg : Str → Option Value} {base : Heap}
local macro_rules | `(tactic| walk_at "rd1") => `(tactic| first
  | (with_reducible refine RD.seq ?_) | (with_reducible refine RD.next ?_) | (with_reducible refine RD.ifS ?_) | (with_reducible refine RD.ret ?_) | (with_reducible refine RD.retN ?_) | (with_reducible refine RD.drop ?_) | (with_reducible refine RD.asg ?_) | (with_reducible refine RD.gname ?_)
  | ((with_reducible apply RD.var); exact rfl) | (with_reducible refine RD.c_ ?_) | (with_reducible refine RD.op ?_) | (with_reducible refine RD.un ?_) | (with_reducible refine RD.cb ?_) | (with_reducible refine RD.cons ?_) | (with_reducible refine RD.nil ?_) | (with_reducible refine RD.tup ?_) | (with_reducible refine RD.lst ?_)
  | (with_reducible refine RD.B_ ?_) | (with_reducible refine RD.test ?_) | (with_reducible refine RD.exB ?_) | (with_reducible refine RD.exI ?_) | (with_reducible refine RD.and_ ?_) | (with_reducible refine RD.or_ ?_) | (with_reducible refine RD.not_ ?_) | (with_reducible refine RD.andV ?_) | (with_reducible refine RD.orV ?_) | (with_reducible refine RD.notV ?_) | (with_reducible refine RD.if_ ?_)
  | (with_reducible refine RD.ifT ?_) | (with_reducible refine RD.ifF ?_) | (with_reducible refine RD.ifNT ?_) | (with_reducible refine RD.ifNF ?_) | (with_reducible refine RD.yes ?_) | (with_reducible refine RD.sl ?_) | (with_reducible refine RD.noPart ?_) | (with_reducible refine RD.part ?_) | (with_reducible refine RD.i0 ?_) | (with_reducible refine RD.eqS ?_) | (with_reducible refine RD.eqI ?_) | (with_reducible refine RD.neS ?_) | (with_reducible refine RD.neI ?_)
  | (with_reducible refine RD.isN_n ?_) | (with_reducible refine RD.isN_r ?_) | (with_reducible refine RD.isN_s ?_) | (with_reducible refine RD.isN_b ?_) | (with_reducible refine RD.isN_i ?_) | (with_reducible refine RD.notN_n ?_) | (with_reducible refine RD.notN_r ?_) | (with_reducible refine RD.notN_s ?_)
  | (with_reducible refine RD.call ?_) | (with_reducible refine RD.make ?_) | (with_reducible refine RD.gcons ?_) | (with_reducible refine RD.gnil ?_) | (with_reducible refine RD.bm ?_) | (with_reducible refine RD.bm0 ?_) | (with_reducible refine RD.dget ?_) | (with_reducible refine RD.din ?_) | (with_reducible refine RD.tfld ?_) | (with_reducible refine RD.then_ ?_) | (with_reducible refine RD.chain ?_) | (with_reducible refine RD.itup ?_) | (with_reducible refine RD.ikeys ?_) | (with_reducible refine RD.ivals ?_) | (with_reducible refine RD.iitems ?_) | (with_reducible refine RD.lset ?_) | (with_reducible refine RD.ilist ?_) | ((with_reducible apply RD.aug); exact rfl))
local macro_rules | `(tactic| walk_at "rd") => `(tactic| repeat walk_at "rd1")

theorem sc__is_classes : FnScope ["thing", "cls"] ["thing"] (defScope (topS 46)) := ⟨rfl, rfl, rfl, by decide +kernel, rfl, by decide +kernel, by decide +kernel⟩
theorem ok_classes (T : Txt K mg) (c_is_name_dict : Cal P w K mg base 2 "is_name_dict" (spNameDict K) []) (c_is_class_form : Cal P w K mg base 5 "is_class_form" (spClass K) []) (c__has_parent_among : Cal P w K mg base 1 "_has_parent_among" (spAmong K) []) (c__has_ring : Cal P w K mg base 1 "_has_ring" (spRing K) []) {f : Addr} {fd : FuncData} (F : Fun K "_is_classes" "_is_classes" (topS 46) f fd) : FnOk P w K mg base CX0 6 f fd ["thing"] (spClasses K) := by
  refine F.ok sc__is_classes (fun vs H Q E h => ?_) (fun cdv A outer s H vs Q E hr h => ?_)
  · obtain ⟨a, rows, kvs, rfl, _⟩ := h
    rfl
  obtain ⟨a, rows, kvs, rfl, ha, hC, q⟩ := h
  have hn := hC.len
  have hf := hC.few
  refine ⟨_, (pss_cons (ps_if (pt_not (pt_val (pe_c c_is_name_dict hr (by decide) (by rfl) (pa_cons (pv 0) (pa_cons (pe_gc (by rfl) T.g_MOST_CLASSES) pa_nil))))) (pss_one (ps_ret pe_bl)) pss_nil)
      (pss_cons (ps_if (pt_not (pt_val (pe_callB (cr_all rfl) (by rfl) T.b_all (by decide +kernel) (pa_cons (pe_lock (pe_lc (own := [("cls", 1)]) (tt := tYes) rfl sc__is_classes.nd (pi_values (pv 0)) (blkOk_by (N := ["thing", "cls"]) (sc := defScope (topS 46)) (by decide +kernel)) (fun _ _ _ _ _ => (pg_name (i := 1) sc__is_classes.nd rfl (Or.inl rfl))) (fun _ _ _ _ _ => pts_nil) (fun _ _ _ _ _ => (pe_c c_is_class_form hr (by decide) (by rfl) (pa_cons (pv 1) pa_nil))))) pa_nil)))) (pss_one (ps_ret pe_bl)) pss_nil)
      (pss_one (ps_ret (pe_and (pe_callB (cr_all rfl) (by rfl) T.b_all (by decide +kernel) (pa_cons (pe_lock (pe_lc (own := [("cls", 1)]) (tt := tYes) rfl sc__is_classes.nd (pi_values (pv 0)) (blkOk_by (N := ["thing", "cls"]) (sc := defScope (topS 46)) (by decide +kernel)) (fun _ _ _ _ _ => (pg_name (i := 1) sc__is_classes.nd rfl (Or.inl rfl))) (fun _ _ _ _ _ => pts_nil) (fun _ _ _ _ _ => (pe_c c__has_parent_among hr (by decide) (by rfl) (pa_cons (pv 1) (pa_cons (pv 0) pa_nil)))))) pa_nil)) (pe_one (pe_not (pe_c c__has_ring hr (by decide) (by rfl) (pa_cons (pv 0) pa_nil))))))))), ?_⟩
  walk_at "rd"
  refine ⟨a, kvs, 8, rfl, ha, by decide, fun i kv e x ex => ckey hC e ex, fun H1 s1 => ?_⟩
  rw [nameKs_eq hC.keys]
  unfold classesB at q
  walk_at "rd"
  refine ite2 (fun h1 => ?_) (fun h1 => ?_)
  · walk_at "rd"
    rw [show (decide (rows.length ≤ 8) && rows.all fun r => nameS r.1) = false from nt h1, Bool.false_and] at q
    exact q _ s1
  rw [show (decide (rows.length ≤ 8) && rows.all fun r => nameS r.1) = true from nf h1, Bool.true_and] at q
  have ha1 := s1 _ _ ha
  have hC1 := hC.same s1
  walk_at "rd"
  refine lockE ha1 trivial fun od => ?_
  unfold tLc
  walk_at "rd"
  refine ⟨a, od, kvs, rfl, upd_same, fun DD hDD => lc_map walk_values (ys := rows.map fun r => V.bl (classB r.2)) (by rw [List.length_map, hn]) (by omega) hDD (fun H' s' => s' _ _ upd_same) (fun i y hy => ?_) fun H2 s2 hL => ?_⟩
  · rintro x H2 H3 s2 ⟨rfl, k, hkv⟩ QQ qq
    obtain ⟨r, hr, rfl⟩ := Option.map_eq_some_iff.mp (by rw [← List.getElem?_map]; exact hy)
    obtain ⟨fa, ma, hc, n1, n2⟩ := hC1.at_ i r _ hr hkv
    walk_at "rd"
    refine ⟨rfl, ?_⟩
    walk_at "rd"
    exact ⟨r.2, x, fa, ma, rfl, (hc.lock ha1 n1 n2).same s2, fun H' s' => qq _ s'⟩
  have hDa : DD ≠ a := fun e => by
    rw [e, upd_same] at hDD
    cases hDD
  refine ⟨s2 _ _ upd_same, ?_⟩
  have s2' := s2.unlock ha1
  have hL2 : upd H2 a (.dK kvs) DD = some (.lst ((rows.map fun r => classB r.2).map V.bl)) := by rw [upd_ne hDa, hL, List.map_map]; rfl
  revert s2' hL2
  generalize upd H2 a (.dK kvs) = H3
  intro s2' hL2
  have ha3 := s2' _ _ ha1
  have hC3 := hC1.same s2'
  walk_at "rd"
  refine ⟨DD, rows.map fun r => classB r.2, rfl, SqL.of hL2, ?_⟩
  rw [show ((rows.map fun r => classB r.2).all id) = (rows.all fun r => classB r.2) by rw [List.all_map]; rfl]
  walk_at "rd"
  refine ite2 (fun h2 => ?_) (fun h2 => ?_)
  · walk_at "rd"
    rw [nt h2, Bool.false_and] at q
    exact q _ (s1.trans s2')
  rw [nf h2, Bool.true_and] at q
  walk_at "rd"
  refine lockE ha3 trivial fun od2 => ?_
  walk_at "rd"
  refine ⟨a, od2, kvs, rfl, upd_same, fun DD2 hDD2 => lc_map walk_values (ys := rows.map fun r => V.bl (amongB rows r.2)) (by rw [List.length_map, hn]) (by omega) hDD2 (fun H' s' => s' _ _ upd_same) (fun i y hy => ?_) fun H4 s4 hL4 => ?_⟩
  · rintro x H5 H6 s5 ⟨rfl, k, hkv⟩ QQ qq
    obtain ⟨r, hr, rfl⟩ := Option.map_eq_some_iff.mp (by rw [← List.getElem?_map]; exact hy)
    obtain ⟨fa, ma, hc, n1, n2⟩ := hC3.at_ i r _ hr hkv
    walk_at "rd"
    refine ⟨rfl, ?_⟩
    walk_at "rd"
    exact ⟨r.2, x, fa, ma, a, rows, kvs, rfl, (hc.lock ha3 n1 n2).same s5, .inr ⟨od2, s5 _ _ upd_same⟩, (hC3.lock ha3).same s5, qq _ (Same.refl _)⟩
  have hDa2 : DD2 ≠ a := fun e => by
    rw [e, upd_same] at hDD2
    cases hDD2
  refine ⟨s4 _ _ upd_same, ?_⟩
  have s4' := s4.unlock ha3
  have hL5 : upd H4 a (.dK kvs) DD2 = some (.lst ((rows.map fun r => amongB rows r.2).map V.bl)) := by rw [upd_ne hDa2, hL4, List.map_map]; rfl
  revert s4' hL5
  generalize upd H4 a (.dK kvs) = H5
  intro s4' hL5
  walk_at "rd"
  refine ⟨DD2, rows.map fun r => amongB rows r.2, rfl, SqL.of hL5, ?_⟩
  rw [show ((rows.map fun r => amongB rows r.2).all id) = (rows.all fun r => amongB rows r.2) by rw [List.all_map]; rfl]
  walk_at "rd"
  refine ite2 (fun h3 => ?_) (fun h3 => ?_)
  · rw [h3, Bool.true_and] at q
    walk_at "rd"
    refine ⟨a, rows, kvs, rfl, s4' _ _ ha3, hC3.same s4', h3, fun H6 s6 => ?_⟩
    walk_at "rd"
    exact q _ (((s1.trans s2').trans s4').trans s6)
  · rw [eq_false_of_ne_true h3, Bool.false_and] at q
    exact q _ ((s1.trans s2').trans s4')
end
end SF

set_option Elab.async false
set_option linter.all false
set_option maxRecDepth 100000
set_option maxHeartbeats 4000000
namespace SF
open PySem PySem.Spec PyProof.Rows L2 G0
open C8 (Cal Mak Met pe_c pe_mk pe_mt pe_mt0 pe_gc)
theorem same_make {H2 H3 : Hp} {x dx : Addr} {o o' : HO} (nx : H2 x = none) (nd : H2 dx = none) (h : ∀ b, b ≠ x → H3 b = upd (upd H2 dx o) x o' b) : Same H2 H3 := fun b u q => by
  rw [h b (ne_of_none q nx), upd_ne (ne_of_none q nx), upd_ne (ne_of_none q nd)]
  exact q
theorem js3 {σ : L2.St} {H : Hp} {Q : VK} {a b : Nat} {z1 z2 : Str} (h1 : σ[a]? = some (some (.str z1))) (h2 : σ[b]? = some (some (.str z2))) (l1 : z1.length ≤ 1000) (l2 : z2.length ≤ 1000) (q : Q (.str (((Str.empty ++ z1) ++ ".") ++ z2)) H) :
    tJs [tFmt (tVar a), tC (.str "."), tFmt (tVar b)] Str.empty σ H fun out H1 => Q (.str out) H1 := by
  have hl : ∀ x y : Str, (x ++ y).length = x.length + y.length := fun x y => Array.size_append
  have e0 : (Str.empty).length = 0 := rfl
  have e1 : ("." : Str).length = 1 := rfl
  have sl : sizeLine = 16777216 := sizeLine_eq
  refine ⟨_, h1, .inl ⟨z1, rfl, by omega, z1, rfl, by rw [hl]; omega, ".", rfl, by rw [hl, hl]; omega, _, h2, .inl ⟨z2, rfl, by omega, z2, rfl, by rw [hl, hl, hl]; omega, q⟩⟩⟩
theorem notN_o {o : Option Str} {H : Hp} {Q : VK} (q : Q (.bl o.isSome) H) : rNotN (optV o) .non H Q := by
  cases o with
  | none => exact ⟨rfl, q⟩
  | some z => exact ⟨rfl, q⟩
structure FirstM (rows : Cls8) (c : Cl) (m : Str × D) : Prop where
  mth : m ∈ c.mths
  bad : badM rows c m.2 = true
  meths : ∃ (ms : List Str) (i : Nat), ms.Perm (c.mths.map (·.1)) ∧ sortedS ms = true ∧ ms[i]? = some m.1 ∧ ∀ (j : Nat) (m' : Str × D), j < i → m' ∈ c.mths → ms[j]? = some m'.1 → badM rows c m'.2 = false
inductive BM (rows : Cls8) (c : Cl) : Option Str → Prop
  | bad (m : Str × D) (f : FirstM rows c m) : BM rows c (some m.1)
  | good (h : Clean rows c) : BM rows c none
def spBadM (K : PySem.W.Frag) : Sp := fun vs H Q _ => ∃ (c : Cl) (v : V) (fa ma a : Addr) (rows : Cls8) (kvs : List (Key × V)), vs = [v, .ref a] ∧ CRep K H c v fa ma ∧ H a = some (.dK kvs) ∧ CsRep K H rows a kvs ∧ classB c = true ∧ (∀ m ∈ c.mths, sz (blkOf m.2) ≤ 100000) ∧ ∀ (r : Option Str) (H' : Hp), BM rows c r → Same H H' → Q (optV r) H'
section
variable {P : Program} {w : World} {K : PySem.W.Frag} {mg : Str → Option Value} {base : Heap} {C : Addr}
local macro_rules | `(tactic| walk_at "rd1") => `(tactic| first
  | (with_reducible refine RD.seq ?_) | (with_reducible refine RD.next ?_) | (with_reducible refine RD.ifS ?_) | (with_reducible refine RD.ret ?_) | (with_reducible refine RD.retN ?_) | (with_reducible refine RD.drop ?_) | (with_reducible refine RD.asg ?_) | (with_reducible refine RD.gname ?_)
  | ((with_reducible apply RD.var); exact rfl) | (with_reducible refine RD.c_ ?_) | (with_reducible refine RD.op ?_) | (with_reducible refine RD.un ?_) | (with_reducible refine RD.cb ?_) | (with_reducible refine RD.cons ?_) | (with_reducible refine RD.nil ?_) | (with_reducible refine RD.tup ?_) | (with_reducible refine RD.lst ?_)
  | (with_reducible refine RD.B_ ?_) | (with_reducible refine RD.test ?_) | (with_reducible refine RD.exB ?_) | (with_reducible refine RD.exI ?_) | (with_reducible refine RD.and_ ?_) | (with_reducible refine RD.or_ ?_) | (with_reducible refine RD.not_ ?_) | (with_reducible refine RD.andV ?_) | (with_reducible refine RD.orV ?_) | (with_reducible refine RD.notV ?_) | (with_reducible refine RD.if_ ?_)
  | (with_reducible refine RD.ifT ?_) | (with_reducible refine RD.ifF ?_) | (with_reducible refine RD.ifNT ?_) | (with_reducible refine RD.ifNF ?_) | (with_reducible refine RD.yes ?_) | (with_reducible refine RD.sl ?_) | (with_reducible refine RD.noPart ?_) | (with_reducible refine RD.part ?_) | (with_reducible refine RD.i0 ?_) | (with_reducible refine RD.eqS ?_) | (with_reducible refine RD.eqI ?_) | (with_reducible refine RD.neS ?_) | (with_reducible refine RD.neI ?_)
  | (with_reducible refine RD.isN_n ?_) | (with_reducible refine RD.isN_r ?_) | (with_reducible refine RD.isN_s ?_) | (with_reducible refine RD.isN_b ?_) | (with_reducible refine RD.isN_i ?_) | (with_reducible refine RD.notN_n ?_) | (with_reducible refine RD.notN_r ?_) | (with_reducible refine RD.notN_s ?_)
  | (with_reducible refine RD.call ?_) | (with_reducible refine RD.make ?_) | (with_reducible refine RD.gcons ?_) | (with_reducible refine RD.gnil ?_) | (with_reducible refine RD.bm ?_) | (with_reducible refine RD.bm0 ?_) | (with_reducible refine RD.dget ?_) | (with_reducible refine RD.din ?_) | (with_reducible refine RD.tfld ?_) | (with_reducible refine RD.then_ ?_) | (with_reducible refine RD.chain ?_) | (with_reducible refine RD.itup ?_) | (with_reducible refine RD.ikeys ?_) | (with_reducible refine RD.ivals ?_) | (with_reducible refine RD.iitems ?_) | (with_reducible refine RD.lset ?_) | (with_reducible refine RD.ilist ?_) | ((with_reducible apply RD.aug); exact rfl))
local macro_rules | `(tactic| walk_at "rd") => `(tactic| repeat walk_at "rd1")

theorem sc_bad_method : FnScope ["cls", "new_classes", "parent", "_", "fields", "methods", "place", "method"] ["cls", "new_classes"] (defScope (topS 28)) := ⟨rfl, rfl, rfl, by decide +kernel, rfl, by decide +kernel, by decide +kernel⟩
theorem ok_badm (T : Txt K mg) (c_Place : Mak P w K mg base 1 "Place" C (spPlace C) []) (c_is_block : Cal P w K mg base 5 "is_block" (spBlock K C) []) {f : Addr} {fd : FuncData} (F : Fun K "bad_method" "bad_method" (topS 28) f fd) : FnOk P w K mg base CX0 6 f fd ["cls", "new_classes"] (spBadM K) := by
  refine F.ok sc_bad_method (fun vs H Q E h => ?_) (fun cdv A outer s H3 vs Q E hr h => ?_)
  · obtain ⟨c, v, fa, ma, a, rows, kvs, rfl, _⟩ := h
    rfl
  obtain ⟨c, v, fa, ma, a, rows, kvs, rfl, ⟨pc, fk, mk, rfl, hS, hfa, hF, hma, hM, hpl⟩, ha3, hC3, hcc, hZ, q⟩ := h
  have hu := hu_of hr
  refine ⟨_, (pss_cons (ps_asg (pv 0) (pg_tup rfl (pgs_cons (pg_name (i := 2) sc_bad_method.nd rfl (Or.inl rfl)) (pgs_cons (pg_name (i := 3) sc_bad_method.nd rfl (Or.inl rfl)) (pgs_cons (pg_name (i := 4) sc_bad_method.nd rfl (Or.inl rfl)) (pgs_cons (pg_name (i := 5) sc_bad_method.nd rfl (Or.inl rfl)) pgs_nil))))))
      (pss_cons (ps_set (i := 6) sc_bad_method.nd rfl (Or.inl rfl) (pe_mk c_Place hr (by decide) (by rfl) (pa_cons (pv 1) (pa_cons (pv 4) (pa_cons pe_bl (pa_cons (pe_cmpR op_notN1 (pv 2) pe_non (nomark _)) pa_nil))))))
      (pss_cons (ps_for PassesOwn.never rfl (pi_list (pe_callB (call_sortedD rfl) (by rfl) T.b_sorted (by decide +kernel) (pa_cons (pv 5) pa_nil))) (pg_name (i := 7) sc_bad_method.nd rfl (Or.inl rfl)) (pss_one (ps_if (pt_not (pt_val (pe_c c_is_block hr (by decide) (by rfl) (pa_cons (pe_ix ix_tup (pe_dget hu (pv 5) (pv 7) (fun _ _ => rfl)) pe_int (fun _ _ => rfl)) (pa_cons (pv 6) pa_nil))))) (pss_one (ps_ret (pv 7))) pss_nil)))
      (pss_one (ps_ret pe_non))))), ?_⟩
  walk_at "rd"
  refine RD.unp hS rfl ?_
  walk_at "rd"
  refine notN_o ?_
  walk_at "rd"
  intro x dx nx nd nxd
  refine ⟨x, dx, a, fa, true, c.par.isSome, rfl, upd_same, fun H4 hb4 hx4 => ⟨rfl, ?_⟩⟩
  have s4 : Same H3 H4 := same_make nx nd hb4
  have hPl : PlO C H4 x (plOf rows c) := ⟨dx, a, fa, hx4, ⟨kvs, s4 _ _ ha3, fun y => by
    rcases hC3.look y with ⟨f1, f2⟩ | ⟨_, _, _, _, f1, f2, _⟩
    · rw [f2]; show none.isSome = (rowAt rows y).isSome; rw [f1]; rfl
    · rw [f2]; show _ = (rowAt rows y).isSome; rw [f1]; rfl⟩, ⟨fk, s4 _ _ hfa, fun y => (hF.look y).1⟩⟩
  walk_at "rd"
  unfold tFor
  walk_at "rd"
  have hma4 := s4 _ _ hma
  have hM4 := hM.lk (.of s4)
  have hmf := hM.few
  refine ⟨ma, mk, c.mths.map (·.1), rfl, .inl hma4, by rw [hM.keys, List.map_map]; rfl, by rw [List.length_map]; omega, fun ms p2 hperm2 hsort2 np2 => ?_⟩
  have s5 : Same H4 (upd H4 p2 (.lst (ms.map V.str))) := (Same.refl H4).nw np2
  have hp5 : (upd H4 p2 (.lst (ms.map V.str))) p2 = some (.lst (ms.map V.str)) := upd_same
  revert s5 hp5
  generalize upd H4 p2 (.lst (ms.map V.str)) = H5
  intro s5 hp5
  have hmm : ∀ m ∈ c.mths, methB m.2 = true := by
    unfold classB methsB at hcc
    rw [Bool.and_eq_true, Bool.and_eq_true, Bool.and_eq_true, Bool.and_eq_true, Bool.and_eq_true] at hcc
    exact fun m hm => List.all_eq_true.mp hcc.2.2.2.2.2 m hm
  refine ⟨p2, rfl, ⟨_, .inl (.inl hp5)⟩, for_list (xs := ms.map V.str) (fun j σ H' => ∃ o8, σ = [some (.ref pc), some (.ref a), some (optV c.par), some (.str c.mark), some (.ref fa), some (.ref ma), some (.ref x), o8] ∧ Same H5 H' ∧ ∀ (i' : Nat) (m : Str × D), i' < j → m ∈ c.mths → ms[i']? = some m.1 → badM rows c m.2 = false) ⟨_, rfl, Same.refl _, fun j m hj => absurd hj (Nat.not_lt_zero j)⟩ (fun j σ H' _ ⟨_, _, s, _⟩ => .inl (.inl (s _ _ hp5))) (fun j y σ H6 hy hP2 => ?_) fun σ H6 hP2 => ?_⟩
  · obtain ⟨o8', rfl, s6, hP2⟩ := hP2
    rw [List.getElem?_map] at hy
    obtain ⟨z2, hz2, rfl⟩ := Option.map_eq_some_iff.mp hy
    have s46 : Same H4 H6 := s5.trans s6
    obtain ⟨m, hm, rfl⟩ : ∃ m ∈ c.mths, m.1 = z2 := List.mem_map.mp ((hperm2.mem_iff).mp (List.mem_of_getElem? hz2))
    have hk : hasKey c.mths m.1 = true := by
      unfold hasKey
      rw [List.find?_isSome]
      exact ⟨m, hm, by simp⟩
    obtain ⟨l1, l2⟩ := hM4.look m.1
    rw [hk] at l1
    obtain ⟨v, hv⟩ := Option.isSome_iff_exists.mp l1
    obtain ⟨m2, hm2, em, hRm⟩ := l2 v hv
    obtain rfl := same_key hM.nodup hm2 hm em
    obtain ⟨pa, bl, emd⟩ : ∃ pa bl, m2.2 = .t [pa, bl] := by
      have := hmm m2 hm
      revert this
      cases m2.2 with
      | s _ => intro h; cases h
      | o => intro h; cases h
      | t l =>
        match l with
        | [pa, bl] => exact fun _ => ⟨pa, bl, rfl⟩
        | [] => intro h; cases h
        | [_] => intro h; cases h
        | _ :: _ :: _ :: _ => intro h; cases h
    rw [emd] at hRm
    obtain ⟨pm, vm, rfl, hSm, hRm2⟩ := rep_t.mp hRm
    obtain ⟨v1, r1, rfl, hv1, hr1⟩ := reps_cons.mp hRm2
    obtain ⟨v2, r2, rfl, hv2, hr2⟩ := reps_cons.mp hr1
    obtain rfl := reps_nil.mp hr2
    walk_at "rd"
    refine ⟨ma, .ref pm, rfl, by rw [← hv]; exact DGet_rd (.inl (s46 _ _ hma4)), ?_⟩
    walk_at "rd"
    refine RD.ixT (same_t s46 hSm) at1 ?_
    walk_at "rd"
    have ebl : blkOf m2.2 = bl := by rw [emd]; rfl
    have hsz : sz bl ≤ 100000 := by
      have := hZ m2 hm
      rwa [ebl] at this
    refine ⟨bl, v2, x, plOf rows c, rfl, hv2.same s46, hPl.same s46, hsz, fun H7 s7 => ?_⟩
    walk_at "rd"
    refine ite2 (fun h2 => ?_) (fun h2 => ?_)
    · walk_at "rd"
      have hbad : badM rows c m2.2 = true := by
        unfold badM
        rw [ebl]
        exact h2
      exact q (some _) H7 (.bad m2 ⟨hm, hbad, ⟨ms, j, hperm2, hsort2, hz2, hP2⟩⟩) ((s4.trans s46).trans s7)
    · walk_at "rd"
      refine ⟨_, rfl, s6.trans s7, fun i' m' hi hm' he => ?_⟩
      by_cases hij : i' = j
      · subst hij
        rw [hz2] at he
        obtain rfl := same_key hM.nodup hm2 hm' (Option.some.inj he)
        unfold badM
        rw [ebl, nf h2]
        rfl
      · exact hP2 i' m' (by omega) hm' he
  · obtain ⟨o8', rfl, s6, hP2⟩ := hP2
    walk_at "rd"
    refine q none _ (.good fun m hm => ?_) ((s4.trans s5).trans s6)
    obtain ⟨i', hi', e'⟩ := List.mem_iff_getElem.mp ((hperm2.mem_iff).mpr (List.mem_map_of_mem (f := (·.1)) hm))
    exact hP2 i' m (by rw [List.length_map]; exact hi') hm (by rw [List.getElem?_eq_getElem hi', e'])
theorem sc__wrong_part : FnScope ["classes", "body", "name", "method"] ["classes", "body"] (defScope (topS 45)) := ⟨rfl, rfl, rfl, by decide +kernel, rfl, by decide +kernel, by decide +kernel⟩
theorem ok_wrong (T : Txt K mg) (c__is_classes : Cal P w K mg base 6 "_is_classes" (spClasses K) []) (c_bad_method : Cal P w K mg base 6 "bad_method" (spBadM K) []) (c_Place : Mak P w K mg base 1 "Place" C (spPlace C) []) (c_is_block : Cal P w K mg base 5 "is_block" (spBlock K C) []) {f : Addr} {fd : FuncData} (F : Fun K "_wrong_part" "_wrong_part" (topS 45) f fd) : FnOk P w K mg base CX0 7 f fd ["classes", "body"] (spWrong K) := by
  refine F.ok sc__wrong_part (fun vs H Q E h => ?_) (fun cdv A outer s H vs Q E hr h => ?_)
  · obtain ⟨a, rows, kvs, vb, body, rfl, _⟩ := h
    rfl
  obtain ⟨a, rows, kvs, vb, body, rfl, ha, hC, hB, hZ, q⟩ := h
  have hu := hu_of hr
  have hn := hC.len
  have hf := hC.few
  refine ⟨_, (pss_cons (ps_if (pt_not (pt_val (pe_c c__is_classes hr (by decide) (by rfl) (pa_cons (pv 0) pa_nil)))) (pss_one (ps_ret pe_str)) pss_nil)
      (pss_cons (ps_for PassesOwn.never rfl (pi_list (pe_callB (call_sortedD rfl) (by rfl) T.b_sorted (by decide +kernel) (pa_cons (pv 0) pa_nil))) (pg_name (i := 2) sc__wrong_part.nd rfl (Or.inl rfl)) (pss_cons (ps_set (i := 3) sc__wrong_part.nd rfl (Or.inl rfl) (pe_c c_bad_method hr (by decide) (by rfl) (pa_cons (pe_dget hu (pv 0) (pv 2) (fun _ _ => rfl)) (pa_cons (pv 0) pa_nil))))
      (pss_one (ps_if (pt_cmpR op_notN1 (pv 3) pe_non (nomark _)) (pss_one (ps_ret (pe_joined (PJ.cons (pe_fmt (pv 2)) (PJ.cons pe_str (PJ.cons (pe_fmt (pv 3)) PJ.nil)))))) pss_nil))))
      (pss_one (ps_ret (pe_ifExp (pt_val (pe_c c_is_block hr (by decide) (by rfl) (pa_cons (pv 1) (pa_cons (pe_mk c_Place hr (by decide) (by rfl) (pa_cons (pv 0) (pa_cons pe_dnewK (pa_cons pe_bl (pa_cons pe_bl pa_nil))))) pa_nil)))) pe_non pe_str))))), ?_⟩
  walk_at "rd"
  refine ⟨a, rows, kvs, rfl, ha, hC, fun H1 s1 => ?_⟩
  walk_at "rd"
  refine ite2 (fun h1 => ?_) (fun h1 => ?_)
  · walk_at "rd"
    exact q _ _ (.cls (nt h1)) s1
  have hcl := nf h1
  walk_at "rd"
  unfold tFor
  walk_at "rd"
  have ha1 := s1 _ _ ha
  refine ⟨a, kvs, rows.map (·.1), rfl, .inl ha1, by rw [hC.keys, List.map_map]; rfl, by rw [List.length_map]; omega, fun ns p hperm hsort np => ?_⟩
  have s2 : Same H (upd H1 p (.lst (ns.map V.str))) := s1.nw np
  have hp2 : (upd H1 p (.lst (ns.map V.str))) p = some (.lst (ns.map V.str)) := upd_same
  revert s2 hp2
  generalize upd H1 p (.lst (ns.map V.str)) = H2
  intro s2 hp2
  refine ⟨p, rfl, ⟨_, .inl (.inl hp2)⟩, for_list (xs := ns.map V.str) (fun i σ H' => ∃ o2 o3, σ = [some (.ref a), some vb, o2, o3] ∧ Same H2 H' ∧ ∀ (j : Nat) (row : Str × Cl), j < i → row ∈ rows → ns[j]? = some row.1 → Clean rows row.2) ⟨_, _, rfl, Same.refl _, fun j row hj => absurd hj (Nat.not_lt_zero j)⟩ (fun i σ H' _ ⟨_, _, _, s, _⟩ => .inl (.inl (s _ _ hp2))) (fun i x σ H3 hx hP => ?_) fun σ H3 hP => ?_⟩
  · obtain ⟨o2, o3, rfl, s3, hP⟩ := hP
    rw [List.getElem?_map] at hx
    obtain ⟨z, hz, rfl⟩ := Option.map_eq_some_iff.mp hx
    have s03 : Same H H3 := s2.trans s3
    have ha3 := s03 _ _ ha
    have hC3 := hC.same s03
    obtain ⟨row, hrow, rfl⟩ : ∃ row ∈ rows, row.1 = z := List.mem_map.mp ((hperm.mem_iff).mp (List.mem_of_getElem? hz))
    walk_at "rd"
    rcases hC3.look row.1 with ⟨e1, e2⟩ | ⟨c, v, fa, ma, e1, e2, hc, nfa, nma⟩
    · have := rowAt_of hrow
      rw [e1] at this
      cases this
    have hrc : row.2 = c := by
      obtain ⟨r2, h1, h2, h3⟩ := rowAt_mem e1
      rw [← h3, same_key hC.nodup hrow h1 h2.symm]
    subst hrc
    have hcc : classB row.2 = true := by
      unfold classesB at hcl
      rw [Bool.and_eq_true, Bool.and_eq_true, Bool.and_eq_true] at hcl
      exact List.all_eq_true.mp hcl.2.1 row hrow
    refine ⟨a, v, rfl, by rw [← e2]; exact DGet_rd (.inl ha3), ?_⟩
    walk_at "rd"
    refine ⟨row.2, v, fa, ma, a, rows, kvs, rfl, hc, ha3, hC3, hcc, hZ.m row hrow, fun r H4 hr4 s4 => ?_⟩
    walk_at "rd"
    refine notN_o ?_
    cases hr4 with
    | bad m fm =>
      dsimp only [Option.isSome]
      walk_at "rd"
      have hsm : m.1.length ≤ 1000 := by
        obtain ⟨pc, fk, mk, _, _, _, _, _, hM, _⟩ := hc
        exact hM.small m fm.mth
      refine js3 rfl rfl (hC.small row hrow) hsm ?_
      exact q (some _) H4 (.meth hcl row m ⟨hrow, fm.mth, fm.bad, ⟨ns, i, hperm, hsort, hz, hP⟩, fm.meths⟩) (s03.trans s4)
    | good hg =>
      dsimp only [Option.isSome]
      walk_at "rd"
      refine ⟨_, _, rfl, s3.trans s4, fun j row' hj hr' he => ?_⟩
      by_cases hji : j = i
      · subst hji
        rw [hz] at he
        obtain rfl := same_key hC.nodup hrow hr' (Option.some.inj he)
        exact hg
      · exact hP j row' (by omega) hr' he
  · obtain ⟨o2, o3, rfl, s3, hP⟩ := hP
    have hclean : ∀ row ∈ rows, Clean rows row.2 := fun row hr => by
      obtain ⟨i', hi', e'⟩ := List.mem_iff_getElem.mp ((hperm.mem_iff).mpr (List.mem_map_of_mem (f := (·.1)) hr))
      exact hP i' row (by rw [List.length_map]; exact hi') hr (by rw [List.getElem?_eq_getElem hi', e'])
    have s03 : Same H H3 := s2.trans s3
    have ha3 := s03 _ _ ha
    have hC3 := hC.same s03
    walk_at "rd"
    intro d1 nd1
    have s4 : Same H3 (upd H3 d1 (.dK [])) := (Same.refl H3).nw nd1
    have hd4 : (upd H3 d1 (.dK [])) d1 = some (.dK []) := upd_same
    revert s4 hd4
    generalize upd H3 d1 (.dK []) = H4
    intro s4 hd4
    walk_at "rd"
    intro x dx nx nd nxd
    refine ⟨x, dx, a, d1, false, false, rfl, upd_same, fun H5 hb5 hx5 => ⟨rfl, ?_⟩⟩
    have s5 : Same H4 H5 := same_make nx nd hb5
    have hPl : PlO C H5 x (plBody rows) := ⟨dx, a, d1, hx5, ⟨kvs, s5 _ _ (s4 _ _ ha3), fun y => by
      rcases hC3.look y with ⟨f1, f2⟩ | ⟨_, _, _, _, f1, f2, _⟩
      · rw [f2]; show none.isSome = (rowAt rows y).isSome; rw [f1]; rfl
      · rw [f2]; show _ = (rowAt rows y).isSome; rw [f1]; rfl⟩, ⟨[], s5 _ _ hd4, fun y => rfl⟩⟩
    have s05 : Same H H5 := (s03.trans s4).trans s5
    walk_at "rd"
    refine ⟨body, vb, x, plBody rows, rfl, hB.same s05, hPl, hZ.b, fun H6 s6 => ?_⟩
    walk_at "rd"
    refine ite2 (fun h2 => ?_) (fun h2 => ?_)
    · exact q none H6 (.good hcl hclean h2) (s05.trans s6)
    · exact q (some "body") H6 (.body hcl hclean (eq_false_of_ne_true h2)) (s05.trans s6)
end
end SF

set_option Elab.async false
set_option linter.all false
set_option maxRecDepth 100000
set_option maxHeartbeats 4000000
/-! rules of our own: == of nested lists, tuples and dicts; an instance made in a try -/
namespace G3
open PySem PySem.Spec PyProof.Rows L2
/-- two tuples of equal items -/
def EqT (K : PySem.W.Frag) (H : Hp) (E : V → V → Prop) (x y : V) : Prop := ∃ a b xs ys, x = .ref a ∧ y = .ref b ∧ SqT K H a xs ∧ SqT K H b ys ∧ Paired E xs ys
def EqW (K : PySem.W.Frag) (H : Hp) : Nat → V → V → Prop
  | 0 => fun _ _ => False
  | n + 1 => fun x y => (x = y ∧ flatB x = true) ∨ (∃ a, x = .ref a ∧ y = .ref a) ∨ EqR K H (EqW K H n) x y ∨ EqT K H (EqW K H n) x y
section
variable {X : Cx} {pins : List (Addr × Obj)} {σ : L2.St} {H : Hp} {s : Shared}
theorem eqT_run (I : Inv X pins σ H s) {A : Around} {F : V → V → Prop} (hu : A.units < cLine) (ih : ∀ x y v u, F x y → RelV x v → RelV y u → SeqAt.EqP X.prog X.w A.in1 s v u true) {x y : V} {v u : Value} (h : EqT X.K H F x y) (rx : RelV x v) (ry : RelV y u)
    (E Q : Value → Shared → Prop) (q : Q (.bool true) s) : wpAny (model X.prog X.w) A (richCompare .Eq v u) Q E s := by
  obtain ⟨a, b, xs, ys, rfl, rfl, ha, hb, hp⟩ := h
  cases (show v = Value.ref a from rx)
  cases (show u = Value.ref b from ry)
  obtain ⟨us, r1, p1, _⟩ := I.tuple ha
  obtain ⟨ws, r2, p2, _⟩ := I.tuple hb
  have hsz : us.toArray.size = ws.toArray.size := by
    rw [List.size_toArray, List.size_toArray, ← r1.length, ← r2.length]
    exact Paired.length hp
  refine GQ.rc_tupG hsz hu (fun _ s' => s' = s) p1 p2 (fun j h1 h2 s' e => ?_) (fun s' e => by rw [e]; exact q) rfl
  subst e
  have k := items_run (P := X.prog) (w := X.w) (A := A.in1) (s := s') ih hp r1 r2 j (by simpa using h1) (by simpa using h2)
  have k2 : SeqAt.EqP X.prog X.w A.in1 s' us.toArray[j] ws.toArray[j] true := by simpa using k
  exact k2 E _ ⟨rfl, rfl⟩
theorem eqW_run (I : Inv X pins σ H s) : ∀ (n : Nat) (A : Around), A.units + n < cLine → ∀ (x y : V) (v u : Value), EqW X.K H n x y → RelV x v → RelV y u → SeqAt.EqP X.prog X.w A s v u true
  | 0, _, _, _, _, _, _, h, _, _ => (show False from h).elim
  | n + 1, A, hu, x, y, v, u, h, rx, ry => by
    have fin : (∃ a b, x = .ref a ∧ y = .ref b) → (∀ (E Q : Value → Shared → Prop), Q (.bool true) s → wpAny (model X.prog X.w) A (richCompare .Eq v u) Q E s) → SeqAt.EqP X.prog X.w A s v u true := fun e step => by
      obtain ⟨a, b, rfl, rfl⟩ := e
      cases (show v = Value.ref a from rx)
      cases (show u = Value.ref b from ry)
      by_cases e : a = b
      · subst e
        exact (SeqAt.EqAt.same _).eqP
      · exact SeqAt.eqP_refs e step
    have ih := eqW_run I n A.in1 (by show A.units + 1 + n < cLine; omega)
    rcases h with ⟨rfl, f⟩ | ⟨a, rfl, rfl⟩ | h | h
    · exact (eqAt_same rx ry f).eqP
    · cases (show v = Value.ref a from rx)
      cases (show u = Value.ref a from ry)
      exact (SeqAt.EqAt.same _).eqP
    · refine fin ?_ (eqR_run I (A := A) (by omega) ih h rx ry)
      rcases h with ⟨a, b, _, _, e1, e2, _⟩ | ⟨a, b, _, _, e1, e2, _⟩
      · exact ⟨a, b, e1, e2⟩
      · exact ⟨a, b, e1, e2⟩
    · refine fin ?_ (eqT_run I (A := A) (by omega) ih h rx ry)
      obtain ⟨a, b, _, _, e1, e2, _⟩ := h
      exact ⟨a, b, e1, e2⟩
end
section
variable {X : Cx}
/-- a == b, two lists, tuples or dicts that are equal -/
def rEqW (K : PySem.W.Frag) : R2 := fun x y H Q => ∃ n, n ≤ 60 ∧ (EqR K H (EqW K H n) x y ∨ EqT K H (EqW K H n) x y) ∧ Q (.bl true) H
theorem op_eqW (hu : X.A.units + 64 < cLine) : OpR X (compareOp .Eq) (rEqW X.K) := by
  intro pins s σ H x y v u Q I rx ry h
  obtain ⟨n, hn, h, q⟩ := h
  have ih := eqW_run I n X.A.in1 (by show X.A.units + 1 + n < cLine; omega)
  rcases h with h | h
  · exact eqR_run I (A := X.A) (by omega) ih h rx ry _ _ ⟨.bl true, H, I, rfl, q⟩
  · exact eqT_run I (A := X.A) (by omega) ih h rx ry _ _ ⟨.bl true, H, I, rfl, q⟩
end
/-! ### an instance made where its __init__ may raise, in a try -/
section
variable {X : Cx} {CX : CXT} {k : Nat} {f C : Addr} {fd : FuncData} {ps : List Str} {sp : Sp} {dvs : List V} {ds : List Value} {E : L2.St → XK} {x : Str} {p pos : Pos} {e : Expr} {es : List Expr} {t : TA}
theorem run_makeS {pins : List (Addr × Obj)} {σ : L2.St} {H : Hp} {s : Shared} {Q : VK} {us : List Value} {vs : List V} (M : Mk X.K C f) (F : FnOk X.prog X.w X.K X.mg X.base CX k f fd ps sp) (hr : Room (k + 1) X.A) (hb : Binds X.K fd ps ds) (hd : Vals dvs ds)
    (hx : PassesAt CX X σ (E σ)) (I : Inv X pins σ H s) (r : Vals vs us)
    (h : ∀ x dx, H x = none → H dx = none → dx ≠ x → sp (.ref x :: (vs ++ dvs)) (upd (upd H dx (.own x)) x (.ins C dx [])) (fun v H2 => v = .non ∧ Q (.ref x) H2) (E σ)) :
    wpAny (model X.prog X.w) X.A (call (.ref C) us) (EP X pins σ Q) X.xe s := by
  have hq := h (s.heap.objs.size + 1) s.heap.objs.size (I.hok.fresh (Nat.le_succ _)) (I.hok.fresh (Nat.le_refl _)) (Nat.ne_of_lt (Nat.lt_succ_self _))
  have I2 := Inv.made (C := C) I
  have r2 : Vals (V.ref (s.heap.objs.size + 1) :: (vs ++ dvs)) (Value.ref (s.heap.objs.size + 1) :: (us ++ ds)) := .cons rfl (r.append hd)
  have hl : (Value.ref (s.heap.objs.size + 1) :: us ++ ds).length = ps.length := by
    have e := r2.length
    rw [F.len _ _ _ _ hq] at e
    exact e.symm
  refine wpAny_call (make_map (f := f) I.kIn M.makes M.init (beq_iff_eq.mp M.fn) (codeAny_mono (F.run _ X.stack _ _ ⟨Value.ref (s.heap.objs.size + 1) :: us, []⟩ (Value.ref (s.heap.objs.size + 1) :: (us ++ ds)) _ _ (E σ) (hr.make C us [])
    (I2.env0.make C us []) (hb _ (Value.ref (s.heap.objs.size + 1) :: us) I2.kIn hl) r2 hq) fun r s' hq' => ?_))
  cases r with
  | error e => exact hx pins _ _ e s' I2 hq'
  | ok fl =>
    cases fl with
    | ret u =>
      obtain ⟨v, H', I3, rv, ev, q3⟩ := I2.after hq'
      subst ev
      exact ⟨rv, ⟨V.ref (s.heap.objs.size + 1), H', I3, rfl, q3⟩⟩
    | next => exact False.elim hq'
    | brk => exact False.elim hq'
    | cont => exact False.elim hq'
def tMakeS (C : Addr) (sp : Sp) (dvs : List V) (E : L2.St → XK) (t : TA) : TE := fun σ H Q => t σ H fun vs H1 => ∀ x dx, H1 x = none → H1 dx = none → dx ≠ x → sp (.ref x :: (vs ++ dvs)) (upd (upd H1 dx (.own x)) x (.ins C dx [])) (fun v H2 => v = .non ∧ Q (.ref x) H2) (E σ)
theorem pe_makeS (M : Mk X.K C f) (F : FnOk X.prog X.w X.K X.mg X.base CX k f fd ps sp) (hr : Room (k + 1) X.A) (hg : Gl X x) (hm : X.mg x = some (.ref C)) (hb : Binds X.K fd ps ds) (hd : Vals dvs ds) (hx : ∀ σ, PassesAt CX X σ (E σ))
    (ha : PA X (e :: es) t) (hdb : (x == ("__debug__" : Str)) = false := by decide) (he : starEach (e :: es) X.env = (false, eval e X.env) :: starEach es X.env := by rfl) (hpl : (backTo pos (starEach es X.env)).any (·.1) = false := by rfl) :
    PE X (.Call (.Name x p) (e :: es) [] pos) (tMakeS C sp dvs E t) := by
  refine ⟨fun pins s σ H Q I h => ?_⟩
  refine wpAny_Call_Name_kw (ld_glob I hg hm ?_ hdb)
  refine PySem.W.callWith_K (h₀ := X.base) I.ok.mod.kin M.kp (thn (ha.run pos pins s σ H _ I h) fun us s1 ⟨vs, H1, I1, r, q⟩ => ⟨I1.kIn, ?_⟩) he hpl
  exact run_makeS M F hr hb hd (hx σ) I1 r q
end
end G3

set_option Elab.async false
set_option linter.all false
set_option maxRecDepth 100000
set_option maxHeartbeats 4000000
namespace SF
open PySem PySem.Spec PyProof.Rows L2 G0
open C8 (Cal Mak Met pe_c pe_mk pe_mt pe_mt0 pe_gc)
def spFew : Sp := fun vs H Q _ => ∃ z : Str, vs = [.str z] ∧ ∀ H', Same H H' → Q (.bl true) H'
def spCp : Sp := fun vs H Q _ => ∃ z : Str, vs = [.str z] ∧ ∀ H', Same H H' → Q (.str z) H'
theorem kit_slt {K : PySem.W.Frag} : PySem.W.kitAny K (.type "str") [.type "list", .type "tuple"] = some false := by
  have e1 : PySem.W.kitOne K (.type "str") (.type "list") = some false := k_sl
  have e2 : PySem.W.kitOne K (.type "str") (.type "tuple") = some false := k_st
  simp [PySem.W.kitAny, e1, e2]
theorem isiT_go {K : PySem.W.Frag} {H : Hp} {v : V} {T S1 S2 : String} {b : Bool} {tp : Addr} {Q : VK} (hT : H tp = some (.tup [.ty S1, .ty S2])) (h : TyX K H v (.type T)) (e : PySem.W.kitAny K (.type T) [.type S1, .type S2] = some b) (q : Q (.bl b) H) : rIsiT K [v, .ref tp] H Q :=
  ⟨v, tp, _, _, _, b, rfl, hT, .cons (.ty S1) (.cons (.ty S2) .nil), h, e, q⟩
section
variable {P : Program} {w : World} {K : PySem.W.Frag} {mg : Str → Option Value} {base : Heap}
local macro_rules | `(tactic| walk_at "rd1") => `(tactic| first
  | (with_reducible refine RD.seq ?_) | (with_reducible refine RD.next ?_) | (with_reducible refine RD.ifS ?_) | (with_reducible refine RD.ret ?_) | (with_reducible refine RD.retN ?_) | (with_reducible refine RD.drop ?_) | (with_reducible refine RD.asg ?_) | (with_reducible refine RD.gname ?_)
  | ((with_reducible apply RD.var); exact rfl) | (with_reducible refine RD.c_ ?_) | (with_reducible refine RD.op ?_) | (with_reducible refine RD.un ?_) | (with_reducible refine RD.cb ?_) | (with_reducible refine RD.cons ?_) | (with_reducible refine RD.nil ?_) | (with_reducible refine RD.tup ?_) | (with_reducible refine RD.lst ?_)
  | (with_reducible refine RD.B_ ?_) | (with_reducible refine RD.test ?_) | (with_reducible refine RD.exB ?_) | (with_reducible refine RD.exI ?_) | (with_reducible refine RD.and_ ?_) | (with_reducible refine RD.or_ ?_) | (with_reducible refine RD.not_ ?_) | (with_reducible refine RD.andV ?_) | (with_reducible refine RD.orV ?_) | (with_reducible refine RD.notV ?_) | (with_reducible refine RD.if_ ?_)
  | (with_reducible refine RD.ifT ?_) | (with_reducible refine RD.ifF ?_) | (with_reducible refine RD.ifNT ?_) | (with_reducible refine RD.ifNF ?_) | (with_reducible refine RD.yes ?_) | (with_reducible refine RD.sl ?_) | (with_reducible refine RD.noPart ?_) | (with_reducible refine RD.part ?_) | (with_reducible refine RD.i0 ?_) | (with_reducible refine RD.eqS ?_) | (with_reducible refine RD.eqI ?_) | (with_reducible refine RD.neS ?_) | (with_reducible refine RD.neI ?_)
  | (with_reducible refine RD.isN_n ?_) | (with_reducible refine RD.isN_r ?_) | (with_reducible refine RD.isN_s ?_) | (with_reducible refine RD.isN_b ?_) | (with_reducible refine RD.isN_i ?_) | (with_reducible refine RD.notN_n ?_) | (with_reducible refine RD.notN_r ?_) | (with_reducible refine RD.notN_s ?_)
  | (with_reducible refine RD.call ?_) | (with_reducible refine RD.make ?_) | (with_reducible refine RD.gcons ?_) | (with_reducible refine RD.gnil ?_) | (with_reducible refine RD.bm ?_) | (with_reducible refine RD.bm0 ?_) | (with_reducible refine RD.dget ?_) | (with_reducible refine RD.din ?_) | (with_reducible refine RD.tfld ?_) | (with_reducible refine RD.then_ ?_) | (with_reducible refine RD.chain ?_) | (with_reducible refine RD.itup ?_) | (with_reducible refine RD.ikeys ?_) | (with_reducible refine RD.ivals ?_) | (with_reducible refine RD.iitems ?_) | (with_reducible refine RD.lset ?_) | (with_reducible refine RD.ilist ?_) | ((with_reducible apply RD.aug); exact rfl))
local macro_rules | `(tactic| walk_at "rd") => `(tactic| repeat walk_at "rd1")

theorem sc__copy : FnScope ["value", "part", "key"] ["value"] (defScope (topS 36)) := ⟨rfl, rfl, rfl, by decide +kernel, rfl, by decide +kernel, by decide +kernel⟩
theorem ok_copy (T : Txt K mg) {f : Addr} {fd : FuncData} (F : Fun K "_copy" "_copy" (topS 36) f fd) : FnOk P w K mg base CX0 1 f fd ["value"] spCp := by
  refine F.ok sc__copy (fun vs H Q E h => ?_) (fun cdv A outer s H vs Q E hr h => ?_)
  · obtain ⟨z, rfl, _⟩ := h
    rfl
  obtain ⟨z, rfl, q⟩ := h
  refine ⟨_, (pss_cons (ps_if (pt_val (pe_callB call_isi (by rfl) T.b_isinstance (by decide +kernel) (pa_cons (pv 0) (pa_cons (pe_bltn (v := .ty "list") (by rfl) T.b_list (by decide +kernel) rfl) pa_nil)))) (pss_one ps_never) pss_nil)
      (pss_cons (ps_if (pt_val (pe_callB call_isi (by rfl) T.b_isinstance (by decide +kernel) (pa_cons (pv 0) (pa_cons (pe_bltn (v := .ty "tuple") (by rfl) T.b_tuple (by decide +kernel) rfl) pa_nil)))) (pss_one ps_never) pss_nil)
      (pss_cons (ps_if (pt_val (pe_callB call_isi (by rfl) T.b_isinstance (by decide +kernel) (pa_cons (pv 0) (pa_cons (pe_bltn (v := .ty "dict") (by rfl) T.b_dict (by decide +kernel) rfl) pa_nil)))) (pss_one ps_never) pss_nil)
      (pss_one (ps_ret (pv 0)))))), ?_⟩
  walk_at "rd"
  refine isi_go ty_s k_sl ?_
  walk_at "rd"
  refine isi_go ty_s k_st ?_
  walk_at "rd"
  refine isi_go ty_s k_sd ?_
  walk_at "rd"
  exact q _ (Same.refl _)
theorem sc__has_few_parts : FnScope ["value", "seen", "left", "part"] ["value"] (defScope (topS 37)) := ⟨rfl, rfl, rfl, by decide +kernel, rfl, by decide +kernel, by decide +kernel⟩
theorem ok_few (T : Txt K mg) {f : Addr} {fd : FuncData} (F : Fun K "_has_few_parts" "_has_few_parts" (topS 37) f fd) : FnOk P w K mg base CX0 1 f fd ["value"] spFew := by
  refine F.ok sc__has_few_parts (fun vs H Q E h => ?_) (fun cdv A outer s H vs Q E hr h => ?_)
  · obtain ⟨z, rfl, _⟩ := h
    rfl
  obtain ⟨z, rfl, q⟩ := h
  refine ⟨_, (pss_cons (ps_set (i := 1) sc__has_few_parts.nd rfl (Or.inl rfl) pe_int)
      (pss_cons (ps_set (i := 2) sc__has_few_parts.nd rfl (Or.inl rfl) (pe_lst (pa_cons (pv 0) pa_nil)))
      (pss_cons (ps_while PassesOwn.never ((pw_and (pt_truth (pv 2) (fun _ => rfl)) (pw_and1 (pt_cmpR op_le (pv 1) (pe_gc (by rfl) T.g_MOST_PARTS) (nomark _))))).pt (pss_cons (ps_set (i := 3) sc__has_few_parts.nd rfl (Or.inl rfl) (pe_bm0 PySem.F.plainAttrs_list PySem.F.slot_list_pop PySem.F.type_list_pop mt_pop (pv 2)))
      (pss_cons (ps_aug (i := 1) sc__has_few_parts.nd rfl (Or.inl rfl) pe_int ip_add)
      (pss_one (ps_if (pt_val (pe_callB call_isi (by rfl) T.b_isinstance (by decide +kernel) (pa_cons (pv 3) (pa_cons (pe_bltn (v := .ty "dict") (by rfl) T.b_dict (by decide +kernel) rfl) pa_nil)))) (pss_one ps_never) (pss_one (ps_if (pt_val (pe_callB call_isiT (by rfl) T.b_isinstance (by decide +kernel) (pa_cons (pv 3) (pa_cons (pe_tup (pa_cons (pe_bltn (v := .ty "list") (by rfl) T.b_list (by decide +kernel) rfl) (pa_cons (pe_bltn (v := .ty "tuple") (by rfl) T.b_tuple (by decide +kernel) rfl) pa_nil))) pa_nil)))) (pss_one ps_never) pss_nil)))))))
      (pss_one (ps_ret (pe_cmpR op_le (pv 1) (pe_gc (by rfl) T.g_MOST_PARTS) (nomark _))))))), ?_⟩
  walk_at "rd"
  refine ⟨sl1, fun l nl => ?_⟩
  walk_at "rd"
  have s1 : Same H (upd H l (.lst [.str z])) := (Same.refl H).nw nl
  refine ⟨fun m σ H' => (m = 1 ∧ σ = [some (.str z), some (.int 0), some (.ref l), none] ∧ H' = upd H l (.lst [.str z])) ∨ (m = 0 ∧ σ = [some (.str z), some (.int 1), some (.ref l), some (.str z)] ∧ Same H H' ∧ H' l = some (.lst [])), ⟨1, .inl ⟨rfl, rfl, rfl⟩⟩, fun m σ H' h => ?_⟩
  rcases h with ⟨rfl, rfl, rfl⟩ | ⟨rfl, rfl, s2, hl⟩
  · walk_at "rd"
    refine ⟨_, .inl ⟨_, .inl (.inl upd_same), rfl⟩, ?_⟩
    refine RD.ifT ?_
    walk_at "rd"
    rw [decide_eq_true (show (0 : Int) ≤ 100000 by decide)]
    walk_at "rd"
    refine ⟨fun σ' H' => ∃ m', m' < 1 ∧ _, fun σ' H' h => h, ?_⟩
    walk_at "rd"
    refine ⟨.inl ⟨rfl, _, .inl (.inl upd_same)⟩, l, _, _, rfl, rfl, upd_same, rfl, ?_⟩
    walk_at "rd"
    refine ⟨_, _, rfl, rfl, ?_⟩
    dsimp only
    walk_at "rd"
    refine isi_go ty_s k_sd ?_
    walk_at "rd"
    refine ⟨sl2, fun tp ntp => ?_⟩
    walk_at "rd"
    refine isiT_go upd_same ty_s (b := false) kit_slt ?_
    walk_at "rd"
    have hl2 : (upd (upd H l (.lst [.str z])) l (.lst [])) l = some (.lst []) := upd_same
    have hne : l ≠ tp := ne_of_none hl2 ntp
    exact ⟨0, Nat.zero_lt_one, .inr ⟨rfl, rfl, ((s1.mt nl)).nw ntp, by rw [upd_ne hne]; exact hl2⟩⟩
  · walk_at "rd"
    refine ⟨_, .inl ⟨_, .inl (.inl hl), rfl⟩, ?_⟩
    refine RD.ifF ?_
    refine RD.ifF ?_
    walk_at "rd"
    rw [decide_eq_true (show (1 : Int) ≤ 100000 by decide)]
    exact q _ s2
theorem sc_copied : FnScope ["value"] ["value"] (defScope (topS 35)) := ⟨rfl, rfl, rfl, by decide +kernel, rfl, by decide +kernel, by decide +kernel⟩
theorem ok_copied (T : Txt K mg) (c__copy : Cal P w K mg base 1 "_copy" spCp []) (c__has_few_parts : Cal P w K mg base 1 "_has_few_parts" spFew []) {f : Addr} {fd : FuncData} (F : Fun K "copied" "copied" (topS 35) f fd) : FnOk P w K mg base CX0 2 f fd ["value"] spCp := by
  refine F.ok sc_copied (fun vs H Q E h => ?_) (fun cdv A outer s H vs Q E hr h => ?_)
  · obtain ⟨z, rfl, _⟩ := h
    rfl
  obtain ⟨z, rfl, q⟩ := h
  refine ⟨_, (pss_one (ps_ret (pe_ifExp (pt_val (pe_c c__has_few_parts hr (by decide) (by rfl) (pa_cons (pv 0) pa_nil))) (pe_c c__copy hr (by decide) (by rfl) (pa_cons (pv 0) pa_nil)) (pv 0)))), ?_⟩
  walk_at "rd"
  refine ⟨z, rfl, fun H1 s1 => ?_⟩
  walk_at "rd"
  exact ⟨z, rfl, fun H2 s2 => q _ (s1.trans s2)⟩
end
end SF

set_option Elab.async false
set_option linter.all false
set_option maxRecDepth 100000
set_option maxHeartbeats 4000000
/-! copies of classes -/
namespace SF
open PySem PySem.Spec PyProof.Rows L2 G0
theorem dc_it {J : It} {n : Nat} {G : Hp → Prop} {Y : Nat → Hp → V → Hp → Prop} (w : Walk J n G Y) {g : TG} {tt : TT} {tk tv : TE} {vs : List Nat} {σ : L2.St} {H1 : Hp} {D : Addr} {Qd : Hp → Prop} (Pv : Nat → Hp → Prop) (h0 : Pv 0 (upd H1 D (.dK []))) (hG : ∀ i H, i ≤ n → Pv i H → G H)
    (hs : ∀ i x H H', i < n → Pv i H → Y i H x H' → g x (wipe σ vs) H' fun σ2 H2 => wipe σ2 vs = wipe σ vs ∧ tt σ2 H2 fun b H3 =>
      if b = true then tk σ2 H3 fun y H4 => tv σ2 H4 fun z H5 => ∃ kvs k, y = kV k ∧ H5 D = some (.dK kvs) ∧ kvs.length < sizeLine ∧ Pv (i + 1) (upd H5 D (.dK (putK kvs k z))) else Pv (i + 1) H3) (hd : ∀ H, Pv n H → Qd H) :
    ∃ W : Nat → Nat → Hp → Prop, (∃ m, W 0 m (upd H1 D (.dK []))) ∧ ∀ i m H, W i m H →
      (J.stop i H ∧ Qd H) ∨ (J.go i H ∧ ∃ Nx : Hp → Prop, (∀ H', Nx H' → ∃ m', m' < m ∧ W (i + 1) m' H') ∧ ∀ x H', J.yld i H x H' → g x (wipe σ vs) H' fun σ2 H2 => wipe σ2 vs = wipe σ vs ∧ tt σ2 H2 fun b H3 =>
        if b = true then tk σ2 H3 fun y H4 => tv σ2 H4 fun z H5 => ∃ kvs k, y = kV k ∧ H5 D = some (.dK kvs) ∧ kvs.length < sizeLine ∧ Nx (upd H5 D (.dK (putK kvs k z))) else Nx H3) := by
  refine ⟨fun i m H => m = n - i ∧ i ≤ n ∧ Pv i H, ⟨n, by simp, Nat.zero_le _, h0⟩, ?_⟩
  rintro i m H ⟨rfl, hi, p⟩
  have q := hG i H hi p
  by_cases hlt : i < n
  · refine .inr ⟨w.goes i H hlt q, Pv (i + 1), fun H' p' => ⟨n - (i + 1), by omega, rfl, hlt, p'⟩, fun x H' y => hs i x H H' hlt p (w.yields i H x H' hlt q y)⟩
  · have e : i = n := by omega
    subst e
    exact .inl ⟨w.stops H q, hd H p⟩
/-- a class as told: its parent and mark, the items of its dicts -/
structure CSh where
  p : V
  m : V
  fk : List (Key × V)
  mt : List (Key × V)
structure CShp (K : PySem.W.Frag) (H : Hp) (s : CSh) (v : V) (D : Addr) : Prop where
  ex : ∃ t fa ma, v = .ref t ∧ SqT K H t [s.p, s.m, .ref fa, .ref ma] ∧ H fa = some (.dK s.fk) ∧ H ma = some (.dK s.mt) ∧ fa ≠ D ∧ ma ≠ D
  fp : flatB s.p = true
  fm : flatB s.m = true
  kf : (s.fk.map (·.1)).Nodup
  km : (s.mt.map (·.1)).Nodup
  vf : ∀ q ∈ s.fk, EqS q.2
  vm : ∀ q ∈ s.mt, EqS q.2
theorem DRep.knd {K : PySem.W.Frag} {H : Hp} {kds : List (Str × D)} {kvs : List (Key × V)} (h : DRep K H kds kvs) : (kvs.map (·.1)).Nodup := by
  rw [h.keys]
  have := h.nodup
  unfold List.Nodup at this ⊢
  rw [List.pairwise_map] at this ⊢
  exact this.imp fun h e => h (Sum.inr.inj e)
theorem DRep.self {K : PySem.W.Frag} {H : Hp} {kds : List (Str × D)} {kvs : List (Key × V)} (h : DRep K H kds kvs) : ∀ q ∈ kvs, EqS q.2 := fun q hq => by
  obtain ⟨i, hi, e⟩ := List.mem_iff_getElem.mp hq
  obtain ⟨d, _, r⟩ := reps_at h.vals (i := i) (v := q.2) (by rw [List.getElem?_map, List.getElem?_eq_getElem hi, e]; rfl)
  exact rep_self r
theorem CShp.same {K : PySem.W.Frag} {H H' : Hp} {s : CSh} {v : V} {D : Addr} (h : CShp K H s v D) (e : Same H H') : CShp K H' s v D := by
  obtain ⟨t, fa, ma, a, b, c, d, x, y⟩ := h.ex
  exact ⟨⟨t, fa, ma, a, same_t e b, e _ _ c, e _ _ d, x, y⟩, h.fp, h.fm, h.kf, h.km, h.vf, h.vm⟩
theorem sqT_upd {K : PySem.W.Frag} {H : Hp} {t D : Addr} {xs : List V} {kvs : List (Key × V)} {o : HO} (hD : H D = some (.dK kvs)) (h : SqT K H t xs) : SqT K (upd H D o) t xs := by
  rcases h with (h | ⟨o', h⟩) | h
  · refine .inl (.inl ?_)
    rw [upd_ne (fun e => by rw [e, hD] at h; cases h)]
    exact h
  · refine .inl (.inr ⟨o', ?_⟩)
    rw [upd_ne (fun e => by rw [e, hD] at h; cases h)]
    exact h
  · exact .inr h
theorem CShp.upd {K : PySem.W.Frag} {H : Hp} {s : CSh} {v : V} {D : Addr} {kvs : List (Key × V)} {o : HO} (h : CShp K H s v D) (hD : H D = some (.dK kvs)) : CShp K (L2.upd H D o) s v D := by
  obtain ⟨t, fa, ma, a, b, c, d, x, y⟩ := h.ex
  exact ⟨⟨t, fa, ma, a, sqT_upd hD b, by rw [upd_ne x]; exact c, by rw [upd_ne y]; exact d, x, y⟩, h.fp, h.fm, h.kf, h.km, h.vf, h.vm⟩
theorem CShp.unl {K : PySem.W.Frag} {H : Hp} {s : CSh} {v : V} {D a : Addr} {kvs : List (Key × V)} {od : Obj} {o : HO} (h : CShp K H s v D) (ha : H a = some (.frz od (.dK kvs))) : CShp K (L2.upd H a o) s v D := by
  obtain ⟨t, fa, ma, e, b, c, d, x, y⟩ := h.ex
  refine ⟨⟨t, fa, ma, e, ?_, by rw [upd_ne (fun e => by rw [e, ha] at c; cases c)]; exact c, by rw [upd_ne (fun e => by rw [e, ha] at d; cases d)]; exact d, x, y⟩, h.fp, h.fm, h.kf, h.km, h.vf, h.vm⟩
  rcases b with (h | ⟨o', h⟩) | h
  · refine .inl (.inl ?_)
    rw [upd_ne (fun e => by rw [e, ha] at h; cases h)]
    exact h
  · refine .inl (.inr ⟨o', ?_⟩)
    rw [upd_ne (fun e => by rw [e, ha] at h; cases h)]
    exact h
  · exact .inr h
structure ShD (K : PySem.W.Frag) (H : Hp) (keys : List Key) (sh : List CSh) (a : Addr) : Prop where
  ex : ∃ kvs, H a = some (.dK kvs) ∧ kvs.map (·.1) = keys ∧ kvs.length = sh.length ∧ ∀ (i : Nat) (kv : Key × V) (s : CSh), kvs[i]? = some kv → sh[i]? = some s → CShp K H s kv.2 a
theorem ShD.same {K : PySem.W.Frag} {H H' : Hp} {keys : List Key} {sh : List CSh} {a : Addr} (h : ShD K H keys sh a) (e : Same H H') : ShD K H' keys sh a := by
  obtain ⟨kvs, h1, h2, h3, h4⟩ := h.ex
  exact ⟨kvs, e _ _ h1, h2, h3, fun i kv s a b => (h4 i kv s a b).same e⟩
theorem CShp.but {K : PySem.W.Frag} {H H' : Hp} {s : CSh} {v : V} {D x C dx : Addr} {fs : List (Str × V)} (h : CShp K H s v D) (hx : H x = some (.ins C dx fs)) (k : ∀ b u, b ≠ x → H b = some u → H' b = some u) : CShp K H' s v D := by
  obtain ⟨t, fa, ma, e, b, c, d, x1, y⟩ := h.ex
  refine ⟨⟨t, fa, ma, e, ?_, k _ _ (fun e => by rw [e, hx] at c; cases c) c, k _ _ (fun e => by rw [e, hx] at d; cases d) d, x1, y⟩, h.fp, h.fm, h.kf, h.km, h.vf, h.vm⟩
  rcases b with (h | ⟨o', h⟩) | h
  · exact .inl (.inl (k _ _ (fun e => by rw [e, hx] at h; cases h) h))
  · exact .inl (.inr ⟨o', k _ _ (fun e => by rw [e, hx] at h; cases h) h⟩)
  · exact .inr h
theorem ShD.but {K : PySem.W.Frag} {H H' : Hp} {keys : List Key} {sh : List CSh} {a x C dx : Addr} {fs : List (Str × V)} (h : ShD K H keys sh a) (hx : H x = some (.ins C dx fs)) (k : ∀ b u, b ≠ x → H b = some u → H' b = some u) : ShD K H' keys sh a := by
  obtain ⟨kvs, h1, h2, h3, h4⟩ := h.ex
  exact ⟨kvs, k _ _ (fun e => by rw [e, hx] at h1; cases h1) h1, h2, h3, fun i kv s a b => (h4 i kv s a b).but hx k⟩
theorem CsRep.knd {K : PySem.W.Frag} {H : Hp} {rows : Cls8} {a : Addr} {kvs : List (Key × V)} (h : CsRep K H rows a kvs) : (kvs.map (·.1)).Nodup := by
  rw [h.keys]
  have := h.nodup
  unfold List.Nodup at this ⊢
  rw [List.pairwise_map] at this ⊢
  exact this.imp fun h e => h (Sum.inr.inj e)
theorem list_ex {γ : Type} {R : Nat → γ → Prop} : ∀ n : Nat, (∀ i, i < n → ∃ s, R i s) → ∃ l : List γ, l.length = n ∧ ∀ (i : Nat) (s : γ), l[i]? = some s → R i s
  | 0, _ => ⟨[], rfl, fun i s h => by simp at h⟩
  | n + 1, h => by
    obtain ⟨l, h1, h2⟩ := list_ex n fun i hi => h i (by omega)
    obtain ⟨s, hs⟩ := h n (by omega)
    refine ⟨l ++ [s], by rw [List.length_append, h1]; rfl, fun i s' e => ?_⟩
    by_cases hi : i < l.length
    · rw [List.getElem?_append_left hi] at e
      exact h2 i s' e
    · rw [List.getElem?_append_right (by omega)] at e
      have h0 : i - l.length = 0 := by
        have := (List.getElem?_eq_some_iff.mp e).1
        have h1 : [s].length = 1 := rfl
        omega
      rw [h0] at e
      obtain rfl : s = s' := by simpa using e
      have : i = n := by omega
      rw [this]
      exact hs
theorem CsRep.shape {K : PySem.W.Frag} {H : Hp} {rows : Cls8} {a : Addr} {kvs : List (Key × V)} (h : CsRep K H rows a kvs) (ha : H a = some (.dK kvs)) : ∃ sh, ShD K H (kvs.map (·.1)) sh a := by
  have hn := h.len
  obtain ⟨sh, h1, h2⟩ := list_ex (R := fun i (s : CSh) => ∀ kv : Key × V, kvs[i]? = some kv → CShp K H s kv.2 a) kvs.length fun i hi => by
    obtain ⟨fa, ma, ⟨p, fk, mk, e1, e2, e3, e4, e5, e6, _⟩, n1, n2⟩ := h.at_ i rows[i] kvs[i] (List.getElem?_eq_getElem (by omega)) (List.getElem?_eq_getElem hi)
    refine ⟨⟨optV rows[i].2.par, .str rows[i].2.mark, fk, mk⟩, fun kv e => ?_⟩
    rw [List.getElem?_eq_getElem hi] at e
    rw [← Option.some.inj e]
    exact ⟨⟨p, fa, ma, e1, e2, e3, e5, n1, n2⟩, by cases rows[i].2.par <;> rfl, rfl, e4.knd, e6.knd, e4.self, e6.self⟩
  exact ⟨sh, kvs, ha, rfl, h1.symm, fun i kv s e1 e2 => h2 i s e2 kv e1⟩
def spCopyC (K : PySem.W.Frag) : Sp := fun vs H Q _ => ∃ (a : Addr) (keys : List Key) (sh : List CSh), vs = [.ref a] ∧ ShD K H keys sh a ∧ keys.Nodup ∧ keys.length ≤ 63 ∧ ∀ (H' : Hp) (c : Addr), Same H H' → H c = none → ShD K H' keys sh c → Q (.ref c) H'
theorem putK_new {kvs : List (Key × V)} {k : Key} {v : V} (h : k ∉ kvs.map (·.1)) : putK kvs k v = kvs ++ [(k, v)] := by
  unfold putK
  rw [if_neg]
  intro e
  obtain ⟨p, hp, e2⟩ := List.any_eq_true.mp e
  exact h (List.mem_map.mpr ⟨p, hp, of_decide_eq_true e2⟩)
end SF

set_option Elab.async false
set_option linter.all false
set_option maxRecDepth 100000
set_option maxHeartbeats 4000000
namespace SF
open PySem PySem.Spec PyProof.Rows L2 G0
open C8 (Cal Mak Met pe_c pe_mk pe_mt pe_mt0 pe_gc)
def spCC (K : PySem.W.Frag) : Sp := fun vs H Q _ => ∃ (s : CSh) (t fa ma : Addr), vs = [.ref t] ∧ SqT K H t [s.p, s.m, .ref fa, .ref ma] ∧ H fa = some (.dK s.fk) ∧ H ma = some (.dK s.mt) ∧ ∀ (H' : Hp) (t2 p1 p2 : Addr), Same H H' → H' t2 = some (.tup [s.p, s.m, .ref p1, .ref p2]) → H' p1 = some (.dK s.fk) → H' p2 = some (.dK s.mt) → H p1 = none → H p2 = none → Q (.ref t2) H'
section
variable {P : Program} {w : World} {K : PySem.W.Frag} {mg : Str → Option Value} {base : Heap}
local macro_rules | `(tactic| walk_at "rd1") => `(tactic| first
  | (with_reducible refine RD.seq ?_) | (with_reducible refine RD.next ?_) | (with_reducible refine RD.ifS ?_) | (with_reducible refine RD.ret ?_) | (with_reducible refine RD.retN ?_) | (with_reducible refine RD.drop ?_) | (with_reducible refine RD.asg ?_) | (with_reducible refine RD.gname ?_)
  | ((with_reducible apply RD.var); exact rfl) | (with_reducible refine RD.c_ ?_) | (with_reducible refine RD.op ?_) | (with_reducible refine RD.un ?_) | (with_reducible refine RD.cb ?_) | (with_reducible refine RD.cons ?_) | (with_reducible refine RD.nil ?_) | (with_reducible refine RD.tup ?_) | (with_reducible refine RD.lst ?_)
  | (with_reducible refine RD.B_ ?_) | (with_reducible refine RD.test ?_) | (with_reducible refine RD.exB ?_) | (with_reducible refine RD.exI ?_) | (with_reducible refine RD.and_ ?_) | (with_reducible refine RD.or_ ?_) | (with_reducible refine RD.not_ ?_) | (with_reducible refine RD.andV ?_) | (with_reducible refine RD.orV ?_) | (with_reducible refine RD.notV ?_) | (with_reducible refine RD.if_ ?_)
  | (with_reducible refine RD.ifT ?_) | (with_reducible refine RD.ifF ?_) | (with_reducible refine RD.ifNT ?_) | (with_reducible refine RD.ifNF ?_) | (with_reducible refine RD.yes ?_) | (with_reducible refine RD.sl ?_) | (with_reducible refine RD.noPart ?_) | (with_reducible refine RD.part ?_) | (with_reducible refine RD.i0 ?_) | (with_reducible refine RD.eqS ?_) | (with_reducible refine RD.eqI ?_) | (with_reducible refine RD.neS ?_) | (with_reducible refine RD.neI ?_)
  | (with_reducible refine RD.isN_n ?_) | (with_reducible refine RD.isN_r ?_) | (with_reducible refine RD.isN_s ?_) | (with_reducible refine RD.isN_b ?_) | (with_reducible refine RD.isN_i ?_) | (with_reducible refine RD.notN_n ?_) | (with_reducible refine RD.notN_r ?_) | (with_reducible refine RD.notN_s ?_)
  | (with_reducible refine RD.call ?_) | (with_reducible refine RD.make ?_) | (with_reducible refine RD.gcons ?_) | (with_reducible refine RD.gnil ?_) | (with_reducible refine RD.bm ?_) | (with_reducible refine RD.bm0 ?_) | (with_reducible refine RD.dget ?_) | (with_reducible refine RD.din ?_) | (with_reducible refine RD.tfld ?_) | (with_reducible refine RD.then_ ?_) | (with_reducible refine RD.chain ?_) | (with_reducible refine RD.itup ?_) | (with_reducible refine RD.ikeys ?_) | (with_reducible refine RD.ivals ?_) | (with_reducible refine RD.iitems ?_) | (with_reducible refine RD.lset ?_) | (with_reducible refine RD.ilist ?_) | ((with_reducible apply RD.aug); exact rfl))
local macro_rules | `(tactic| walk_at "rd") => `(tactic| repeat walk_at "rd1")

theorem sc_copied_class : FnScope ["cls", "parent", "mark", "fields", "methods"] ["cls"] (defScope (topS 29)) := ⟨rfl, rfl, rfl, by decide +kernel, rfl, by decide +kernel, by decide +kernel⟩
theorem ok_cc (T : Txt K mg) {f : Addr} {fd : FuncData} (F : Fun K "copied_class" "copied_class" (topS 29) f fd) : FnOk P w K mg base CX0 1 f fd ["cls"] (spCC K) := by
  refine F.ok sc_copied_class (fun vs H Q E h => ?_) (fun cdv A outer s H vs Q E hr h => ?_)
  · obtain ⟨s, t, fa, ma, rfl, _⟩ := h
    rfl
  obtain ⟨s, t, fa, ma, rfl, hS, hfa, hma, q⟩ := h
  refine ⟨_, (pss_cons (ps_asg (pv 0) (pg_tup rfl (pgs_cons (pg_name (i := 1) sc_copied_class.nd rfl (Or.inl rfl)) (pgs_cons (pg_name (i := 2) sc_copied_class.nd rfl (Or.inl rfl)) (pgs_cons (pg_name (i := 3) sc_copied_class.nd rfl (Or.inl rfl)) (pgs_cons (pg_name (i := 4) sc_copied_class.nd rfl (Or.inl rfl)) pgs_nil))))))
      (pss_one (ps_ret (pe_tup (pa_cons (pv 1) (pa_cons (pv 2) (pa_cons (pe_callTy call_dictD (by rfl) T.b_dict (by decide +kernel) (pa_cons (pv 3) pa_nil)) (pa_cons (pe_callTy call_dictD (by rfl) T.b_dict (by decide +kernel) (pa_cons (pv 4) pa_nil)) pa_nil)))))))), ?_⟩
  walk_at "rd"
  refine RD.unp hS rfl ?_
  walk_at "rd"
  refine ⟨fa, _, rfl, .inl hfa, fun p1 n1 => ?_⟩
  walk_at "rd"
  have s4 := (Same.refl H).nw (o := .dK s.fk) n1
  have hp1 : (upd H p1 (.dK s.fk)) p1 = some (.dK s.fk) := upd_same
  revert s4 hp1
  generalize upd H p1 (.dK s.fk) = H4
  intro s4 hp1
  refine ⟨ma, _, rfl, .inl (s4 _ _ hma), fun p2 n2 => ?_⟩
  have s5 := s4.nw (o := .dK s.mt) n2
  have hp2 : (upd H4 p2 (.dK s.mt)) p2 = some (.dK s.mt) := upd_same
  have hp1' : (upd H4 p2 (.dK s.mt)) p1 = some (.dK s.fk) := by rw [upd_ne (ne_of_none hp1 n2)]; exact hp1
  have n2' : H p2 = none := none_of s4 n2
  revert s5 hp2 hp1'
  generalize upd H4 p2 (.dK s.mt) = H5
  intro s5 hp2 hp1'
  walk_at "rd"
  refine ⟨sl4, fun t2 nt2 => ?_⟩
  have s6 := s5.nw (o := .tup [s.p, s.m, .ref p1, .ref p2]) nt2
  exact q _ t2 p1 p2 s6 upd_same (by rw [upd_ne (ne_of_none hp1' nt2)]; exact hp1') (by rw [upd_ne (ne_of_none hp2 nt2)]; exact hp2) n1 n2'
theorem sc__copied_classes : FnScope ["classes", "name", "cls"] ["classes"] (defScope (topS 44)) := ⟨rfl, rfl, rfl, by decide +kernel, rfl, by decide +kernel, by decide +kernel⟩
theorem ok_copyC (T : Txt K mg) (c_copied_class : Cal P w K mg base 1 "copied_class" (spCC K) []) {f : Addr} {fd : FuncData} (F : Fun K "_copied_classes" "_copied_classes" (topS 44) f fd) : FnOk P w K mg base CX0 2 f fd ["classes"] (spCopyC K) := by
  refine F.ok sc__copied_classes (fun vs H Q E h => ?_) (fun cdv A outer s H vs Q E hr h => ?_)
  · obtain ⟨a, keys, sh, rfl, _⟩ := h
    rfl
  obtain ⟨a, keys, sh, rfl, hS, hnd, hk63, q⟩ := h
  obtain ⟨kvs, ha, hkeys, hlen, hat⟩ := hS.ex
  refine ⟨_, (pss_one (ps_ret (pe_lock (pe_dc (own := [("name", 1), ("cls", 2)]) (g := (gTup K 2 (gCons (gName 1) (gCons (gName 2) gNil)))) (tt := tYes) rfl sc__copied_classes.nd (pi_items (pv 0)) (blkOk_by (N := ["classes", "name", "cls"]) (sc := defScope (topS 44)) (by decide +kernel)) (fun _ _ _ _ _ => (pg_tup rfl (pgs_cons (pg_name (i := 1) sc__copied_classes.nd rfl (Or.inl rfl)) (pgs_cons (pg_name (i := 2) sc__copied_classes.nd rfl (Or.inl rfl)) pgs_nil)))) (fun _ _ _ _ _ => pts_nil) (fun _ _ _ _ _ => (pv 1)) (fun _ _ _ _ _ => (pe_c c_copied_class hr (by decide) (by rfl) (pa_cons (pv 2) pa_nil))))))), ?_⟩
  walk_at "rd"
  refine lockE ha trivial fun od => ?_
  unfold tDc
  walk_at "rd"
  have hkl : keys.length = kvs.length := by rw [← hkeys, List.length_map]
  refine ⟨a, od, kvs, rfl, upd_same, fun DD hD => dc_it walk_items (fun i H' => Same (upd H a (.frz od (.dK kvs))) H' ∧ ∃ cs, H' DD = some (.dK cs) ∧ cs.map (·.1) = keys.take i ∧ ∀ (j : Nat) (kv : Key × V) (s : CSh), cs[j]? = some kv → sh[j]? = some s → CShp K H' s kv.2 DD) ⟨(Same.refl _).mt hD, [], upd_same, rfl, fun j kv s e => by simp at e⟩ (fun i H' _ h => h.1 _ _ upd_same) (fun i x H2 H3 hi hP hY => ?_) fun H2 hP => ?_⟩
  · obtain ⟨s2, cs, hcs, hck, hcat⟩ := hP
    obtain ⟨T2, k0, v0, rfl, nT, rfl, hk0, hv0⟩ := hY
    have hi2 : i < sh.length := by omega
    have ekv : kvs[i]? = some kvs[i] := List.getElem?_eq_getElem hi
    dsimp only at hk0 hv0
    rw [ekv] at hk0 hv0
    have es : sh[i]? = some sh[i] := List.getElem?_eq_getElem hi2
    obtain ⟨⟨t, fa, ma, ev, hSt, hfa, hma, nfa, nma⟩, fp, fm, kf, km, vf, vm⟩ := hat i _ _ ekv es
    obtain rfl : V.ref t = v0 := ev.symm.trans (Option.some.inj hv0)
    obtain rfl : kV kvs[i].1 = k0 := Option.some.inj hk0
    have lk : LK H (upd H a (.frz od (.dK kvs))) := LK.lock ha
    have s3 : Same H2 (upd H2 T2 (.tup [kV kvs[i].1, .ref t])) := (Same.refl H2).nw nT
    have hfa3 := s3 _ _ (s2 _ _ (by rw [upd_ne nfa]; exact hfa))
    have hma3 := s3 _ _ (s2 _ _ (by rw [upd_ne nma]; exact hma))
    refine RD.unp (xs := [kV kvs[i].1, .ref t]) (.inl (.inl upd_same)) rfl ?_
    walk_at "rd"
    refine ⟨rfl, ?_⟩
    walk_at "rd"
    refine ⟨sh[i], t, fa, ma, rfl, same_t s3 (same_t s2 (lk.t hSt)), hfa3, hma3, fun H6 t2 p1 p2 s36 ht2 hp1'' hp2'' n1 n2 => ?_⟩
    have s6 := s3.trans s36
    have n1' : H2 p1 = none := none_of s3 n1
    have n2' : H2 p2 = none := none_of s3 n2
    have hD6 := s6 _ _ hcs
    have hcl : cs.length = i := by
      have := congrArg List.length hck
      rw [List.length_map, List.length_take] at this
      omega
    have hkey : keys[i]? = some kvs[i].1 := by rw [← hkeys, List.getElem?_map, ekv]; rfl
    have hnew : kvs[i].1 ∉ cs.map (·.1) := by
      rw [hck]
      intro hm
      obtain ⟨j, hj, ej⟩ := List.mem_iff_getElem.mp hm
      rw [List.length_take] at hj
      rw [List.getElem_take] at ej
      have e1 : keys[i]'(by omega) = kvs[i].1 := by
        rw [List.getElem?_eq_getElem (by omega)] at hkey
        exact Option.some.inj hkey
      exact (List.pairwise_iff_getElem.mp hnd j i (by omega) (by omega) (by omega)) (ej.trans e1.symm)
    refine ⟨cs, kvs[i].1, rfl, hD6, by rw [sizeLine_eq]; omega, (s2.trans s6).mt hD, cs ++ [(kvs[i].1, .ref t2)], by rw [putK_new hnew]; exact upd_same, ?_, fun j kv s e1 e2 => ?_⟩
    · rw [List.map_append, hck, List.take_succ, hkey]
      rfl
    · by_cases hj : j < cs.length
      · rw [List.getElem?_append_left hj] at e1
        exact ((hcat j kv s e1 e2).same s6).upd hD6
      · rw [List.getElem?_append_right (by omega)] at e1
        have h0 : j - cs.length = 0 := by
          have := (List.getElem?_eq_some_iff.mp e1).1
          have h1 : [(kvs[i].1, V.ref t2)].length = 1 := rfl
          omega
        rw [h0] at e1
        obtain rfl : (kvs[i].1, V.ref t2) = kv := Option.some.inj e1
        obtain rfl : j = i := by omega
        rw [es] at e2
        obtain rfl := Option.some.inj e2
        exact CShp.upd ⟨⟨t2, p1, p2, rfl, .inl (.inl ht2), hp1'', hp2'', Ne.symm (ne_of_none hcs n1'), Ne.symm (ne_of_none hcs n2')⟩, fp, fm, kf, km, vf, vm⟩ hD6
  · obtain ⟨s2, cs, hcs, hck, hcat⟩ := hP
    have ha2 := s2 _ _ (upd_same (H := H) (a := a))
    have hDa : DD ≠ a := fun e => by rw [e, upd_same] at hD; cases hD
    refine ⟨ha2, q _ DD (s2.unlock ha) (by rw [upd_ne hDa] at hD; exact hD) ⟨cs, by rw [upd_ne hDa]; exact hcs, by rw [hck, ← hkl, List.take_length], ?_, fun i kv s e1 e2 => (hcat i kv s e1 e2).unl ha2⟩⟩
    have := congrArg List.length hck
    rw [List.length_map, List.length_take] at this
    omega
end
end SF

set_option Elab.async false
set_option linter.all false
set_option maxRecDepth 100000
set_option maxHeartbeats 4000000
namespace RD
open PySem PySem.Spec PyProof.Rows L2 G0
theorem mko {C : Addr} {sp : Sp} {ta : TA} {σ : L2.St} {H : Hp} {Q : XK} (h : ta σ H fun vs H1 => vs.length ≤ 1000 ∧ ∀ a, H1 a = none → sp (.ref a :: (vs ++ [])) (upd H1 a (exo a C none)) (fun v H2 => v = .non ∧ ∃ (d : Addr) (fs : List (Str × V)), H2 a = some (exo a C (some d)) ∧ H2 d = some (exd d fs) ∧ H1 d = none ∧ Q (.ref C) (some d) (upd (del H2 a) d (.xd fs))) (fun _ _ _ => False)) : tMkO C sp [] ta σ H Q := h
theorem ost {K : PySem.W.Frag} {f : Str} {to te : TE} {σ : L2.St} {H : Hp} {nx : L2.St → Hp → Prop} {rt : VK} {bk ct : L2.St → Hp → Prop} (h : te σ H fun y H1 => to σ H1 fun x H2 => ∃ a C : Addr, x = .ref a ∧ OexC K C ∧ PySem.W.findIn K (.ref C) f = some none ∧
  ((H2 a = some (exo a C none) ∧ ∀ dx, H2 dx = none → dx ≠ a → nx σ (upd (upd H2 dx (exd dx [(f, y)])) a (exo a C (some dx)))) ∨
    ∃ (dx : Addr) (fs : List (Str × V)), H2 a = some (exo a C (some dx)) ∧ H2 dx = some (exd dx fs) ∧ fs.length ≤ 900 ∧ nx σ (upd H2 dx (exd dx ((f, y) :: fs))))) : tOst K f to te ⟨nx, rt, bk, ct⟩ σ H := h
end RD
namespace SF
open PySem PySem.Spec PyProof.Rows L2 G0
open C8 (Cal Mak Met pe_c pe_mk pe_mt pe_mt0 pe_gc)
def spBP (C : Addr) : Sp := fun vs H Q _ => ∃ (a : Addr) (z : Str), vs = [.ref a, .str z] ∧ H a = some (exo a C none) ∧ ∀ (H' : Hp) (dx : Addr), (∀ b u, b ≠ a → H b = some u → H' b = some u) → H dx = none → H' a = some (exo a C (some dx)) → H' dx = some (exd dx [("part", .str z)]) → Q .non H'
structure PgC (K : PySem.W.Frag) (C : Addr) : Prop where
  cl : Cls K C
  n1 : NoAttr K C "_classes"
  n2 : NoAttr K C "body"
def spProg (K : PySem.W.Frag) (CP CB : Addr) : Sp := fun vs H Q E => ∃ (x dx a : Addr) (rows : Cls8) (kvs : List (Key × V)) (vb : V) (body : D), vs = [.ref x, .ref a, vb] ∧ H x = some (.ins CP dx []) ∧ H a = some (.dK kvs) ∧ CsRep K H rows a kvs ∧ Rep K H body vb ∧ Sizes rows body ∧
  (∀ (z : Str) (H' : Hp) (d : Addr), WR rows body (some z) → Same H H' → H d = none → H' d = some (.xd [("part", .str z)]) → E (.ref CB) (some d) H') ∧
  (∀ (H' : Hp) (c : Addr) (sh : List CSh), WR rows body none → (∀ b u, b ≠ x → H b = some u → H' b = some u) → ShD K H (kvs.map (·.1)) sh a → ShD K H' (kvs.map (·.1)) sh c → H' x = some (.ins CP dx [("_classes", .ref c), ("body", vb)]) → Q .non H')
def spGet (K : PySem.W.Frag) (CP : Addr) : Sp := fun vs H Q _ => ∃ (x dx c : Addr) (vb : V) (keys : List Key) (sh : List CSh), vs = [.ref x] ∧ H x = some (.ins CP dx [("_classes", .ref c), ("body", vb)]) ∧ ShD K H keys sh c ∧ keys.Nodup ∧ keys.length ≤ 63 ∧ ∀ (H' : Hp) (c' : Addr), Same H H' → H c' = none → ShD K H' keys sh c' → Q (.ref c') H'
section
variable {P : Program} {w : World} {K : PySem.W.Frag} {mg : Str → Option Value} {base : Heap}
local macro_rules | `(tactic| walk_at "rd1") => `(tactic| first
  | (with_reducible refine RD.seq ?_) | (with_reducible refine RD.next ?_) | (with_reducible refine RD.ifS ?_) | (with_reducible refine RD.ret ?_) | (with_reducible refine RD.retN ?_) | (with_reducible refine RD.drop ?_) | (with_reducible refine RD.asg ?_) | (with_reducible refine RD.gname ?_)
  | ((with_reducible apply RD.var); exact rfl) | (with_reducible refine RD.c_ ?_) | (with_reducible refine RD.op ?_) | (with_reducible refine RD.un ?_) | (with_reducible refine RD.cb ?_) | (with_reducible refine RD.cons ?_) | (with_reducible refine RD.nil ?_) | (with_reducible refine RD.tup ?_) | (with_reducible refine RD.lst ?_)
  | (with_reducible refine RD.B_ ?_) | (with_reducible refine RD.test ?_) | (with_reducible refine RD.exB ?_) | (with_reducible refine RD.exI ?_) | (with_reducible refine RD.and_ ?_) | (with_reducible refine RD.or_ ?_) | (with_reducible refine RD.not_ ?_) | (with_reducible refine RD.andV ?_) | (with_reducible refine RD.orV ?_) | (with_reducible refine RD.notV ?_) | (with_reducible refine RD.if_ ?_)
  | (with_reducible refine RD.ifT ?_) | (with_reducible refine RD.ifF ?_) | (with_reducible refine RD.ifNT ?_) | (with_reducible refine RD.ifNF ?_) | (with_reducible refine RD.yes ?_) | (with_reducible refine RD.sl ?_) | (with_reducible refine RD.noPart ?_) | (with_reducible refine RD.part ?_) | (with_reducible refine RD.i0 ?_) | (with_reducible refine RD.eqS ?_) | (with_reducible refine RD.eqI ?_) | (with_reducible refine RD.neS ?_) | (with_reducible refine RD.neI ?_)
  | (with_reducible refine RD.isN_n ?_) | (with_reducible refine RD.isN_r ?_) | (with_reducible refine RD.isN_s ?_) | (with_reducible refine RD.isN_b ?_) | (with_reducible refine RD.isN_i ?_) | (with_reducible refine RD.notN_n ?_) | (with_reducible refine RD.notN_r ?_) | (with_reducible refine RD.notN_s ?_)
  | (with_reducible refine RD.call ?_) | (with_reducible refine RD.make ?_) | (with_reducible refine RD.gcons ?_) | (with_reducible refine RD.gnil ?_) | (with_reducible refine RD.bm ?_) | (with_reducible refine RD.bm0 ?_) | (with_reducible refine RD.dget ?_) | (with_reducible refine RD.din ?_) | (with_reducible refine RD.tfld ?_) | (with_reducible refine RD.then_ ?_) | (with_reducible refine RD.chain ?_) | (with_reducible refine RD.itup ?_) | (with_reducible refine RD.ikeys ?_) | (with_reducible refine RD.ivals ?_) | (with_reducible refine RD.iitems ?_) | (with_reducible refine RD.lset ?_) | (with_reducible refine RD.ilist ?_) | ((with_reducible apply RD.aug); exact rfl))
local macro_rules | `(tactic| walk_at "rd") => `(tactic| repeat walk_at "rd1")

abbrev stBP : Stmt := (inClass (topS 40) 0)
theorem scBP : G1.SScope ["self", "part"] ["self", "part"] (defScope stBP) := ⟨rfl, rfl, rfl, by decide +kernel, rfl, by decide +kernel, by decide +kernel, by decide +kernel, by decide +kernel⟩
theorem ok_BP (T : Txt K mg) (c_copied : Cal P w K mg base 2 "copied" spCp []) {C fI cc cda : Addr} (X : OexC K C) (hno : PySem.W.findIn K (.ref C) "part" = some none) {kV doc pm ct : Value} {an : Option Addr}
    (S : G1.SupC K P C fI cc cda (PySem.W.ksFn "__init__" "BadProgram.__init__" (defArgs stBP) (defBody stBP) (defScope stBP) .none kV doc pm an (.ref cda) ct cc)) (hcd : PySem.W.codeIn K (.ref cda) "BadProgram.__init__" = true) :
    FnOk P w K mg base CX0 3 fI (PySem.W.ksFn "__init__" "BadProgram.__init__" (defArgs stBP) (defBody stBP) (defScope stBP) .none kV doc pm an (.ref cda) ct cc) ["self", "part"] (spBP C) := by
  refine G1.fn_ofS (ps := ["part"]) (sn := "self") S hcd scBP rfl rfl T.b_super rfl rfl (fun L => rfl) (fun L => rfl) (fun L => rfl) (fun vs H Q E h => ?_) (fun vs H Q E h => ?_) (fun A outer s H vs Q E hr h => ?_)
  · obtain ⟨a, z, rfl, _⟩ := h
    rfl
  · obtain ⟨a, z, rfl, h, _⟩ := h
    exact ⟨a, _, rfl, h⟩
  obtain ⟨a, z, rfl, ha, q⟩ := h
  refine ⟨_, pss_one (ps_ost (pv 0) (pe_c c_copied hr (by decide) (by rfl) (pa_cons (pv 1) pa_nil))), ?_⟩
  with_reducible refine RD.ost ?_
  walk_at "rd"
  refine ⟨z, rfl, fun H1 s1 => ?_⟩
  walk_at "rd"
  refine ⟨a, C, rfl, X, hno, .inl ⟨s1 _ _ ha, fun dx hdx hne => ?_⟩⟩
  refine q _ dx (fun b u hb hu => ?_) (none_of s1 hdx) upd_same ?_
  · rw [upd_ne hb, upd_ne (ne_of_none (s1 _ _ hu) hdx)]
    exact s1 _ _ hu
  · rw [upd_ne hne]
    exact upd_same
theorem sc_Program___init__ : FnScope ["self", "classes", "body", "part"] ["self", "classes", "body"] (defScope (inClass (topS 43) 0)) := ⟨rfl, rfl, rfl, by decide +kernel, rfl, by decide +kernel, by decide +kernel⟩
theorem ok_Prog (T : Txt K mg) {CP CB fI : Addr} {fdB : FuncData} (pc : PgC K CP) (c__wrong_part : Cal P w K mg base 7 "_wrong_part" (spWrong K) []) (c__copied_classes : Cal P w K mg base 2 "_copied_classes" (spCopyC K) [])
    (XB : OexC K CB) (iB : PySem.W.findIn K (.ref CB) "__init__" = some (some (.ref fI))) (tB : PySem.W.typeIn K (.ref fI) = some (.type "function")) (GB : FnOk P w K mg base CX0 3 fI fdB ["self", "part"] (spBP CB)) (bB : Binds K fdB ["self", "part"] []) (gB : mg "BadProgram" = some (.ref CB))
    {f : Addr} {fd : FuncData} (F : Fun K "__init__" "Program.__init__" (inClass (topS 43) 0) f fd) : FnOk P w K mg base (L2.CX P w) 8 f fd ["self", "classes", "body"] (spProg K CP CB) := by
  refine F.okX sc_Program___init__ (fun vs H Q E h => ?_) (fun cdv A outer s H vs Q E hr h => ?_)
  · obtain ⟨x, dx, a, rows, kvs, vb, body, rfl, _⟩ := h
    rfl
  obtain ⟨x, dx, a, rows, kvs, vb, body, rfl, hx, ha, hC, hB, hZ, q1, q2⟩ := h
  have hr4 := hr.mono (show 4 ≤ 7 by decide)
  refine ⟨_, (pss_cons (ps_set (i := 3) sc_Program___init__.nd rfl (Or.inl rfl) (pe_c c__wrong_part hr (by decide) (by rfl) (pa_cons (pv 1) (pa_cons (pv 2) pa_nil))))
      (pss_cons (ps_if (pt_cmpR op_notN1 (pv 3) pe_non (nomark _)) (pss_one (ps_raise rfl (takes_of rfl rfl rfl rfl) (pmk_oex XB iB tB GB hr4 bB .nil pass0 (by rfl) gB (pa_cons (pv 3) pa_nil)))) pss_nil)
      (pss_cons (ps_fld (pv 0) (pe_c c__copied_classes hr (by decide) (by rfl) (pa_cons (pv 1) pa_nil)) rfl)
      (pss_one (ps_fld (pv 0) (pv 2) rfl))))), ?_⟩
  walk_at "rd"
  refine ⟨a, rows, kvs, vb, body, rfl, ha, hC, hB, hZ, fun r H1 hr1 s1 => ?_⟩
  walk_at "rd"
  refine notN_o ?_
  cases r with
  | some z =>
    dsimp only [Option.isSome]
    walk_at "rd"
    with_reducible refine RD.mko ?_
    walk_at "rd"
    refine ⟨by show 1 ≤ 1000; decide, fun e ne => ⟨e, z, rfl, upd_same, fun H2 d hk hd h1 h2 => ?_⟩⟩
    have hde : d ≠ e := fun z => by rw [z, upd_same] at hd; cases hd
    rw [upd_ne hde] at hd
    refine ⟨rfl, d, _, h1, h2, hd, q1 z _ d hr1 (fun b u hu => ?_) (none_of s1 hd) upd_same⟩
    have hu1 := s1 _ _ hu
    have hbe := ne_of_none hu1 ne
    rw [upd_ne (ne_of_none hu1 hd), del_ne hbe]
    exact hk b u hbe (by rw [upd_ne hbe]; exact hu1)
  | none =>
    dsimp only [Option.isSome]
    walk_at "rd"
    with_reducible refine RD.sfld ?_
    walk_at "rd"
    obtain ⟨sh, hSh⟩ := hC.shape ha
    refine ⟨a, _, sh, rfl, hSh.same s1, hC.knd, by rw [List.length_map, hC.len]; exact hC.few, fun H2 c s2 nc hc => ?_⟩
    have hx2 := s2 _ _ (s1 _ _ hx)
    walk_at "rd"
    refine ⟨x, CP, dx, [], rfl, hx2, pc.cl, pc.n1, (by decide), ?_⟩
    walk_at "rd"
    with_reducible refine RD.sfld ?_
    walk_at "rd"
    refine ⟨x, CP, dx, _, rfl, upd_same, pc.cl, pc.n2, (show (1 : Nat) < 1000 by decide), ?_⟩
    have kb : ∀ b u, b ≠ x → H2 b = some u → upd (upd H2 x (.ins CP dx (putF "_classes" (.ref c) []))) x (.ins CP dx (putF "body" vb (putF "_classes" (.ref c) []))) b = some u := fun b u hb hu => by
      rw [upd_ne hb, upd_ne hb]
      exact hu
    exact q2 _ c sh hr1 (fun b u hb hu => kb b u hb (s2 _ _ (s1 _ _ hu))) hSh (hc.but hx2 kb) upd_same
theorem sc_Program_classes : FnScope ["self"] ["self"] (defScope (inClass (topS 43) 1)) := ⟨rfl, rfl, rfl, by decide +kernel, rfl, by decide +kernel, by decide +kernel⟩
theorem ok_get (T : Txt K mg) {CP : Addr} (pc : PgC K CP) (c__copied_classes : Cal P w K mg base 2 "_copied_classes" (spCopyC K) []) {f : Addr} {fd : FuncData} (F : Fun K "classes" "Program.classes" (inClass (topS 43) 1) f fd) : FnOk P w K mg base CX0 3 f fd ["self"] (spGet K CP) := by
  refine F.ok sc_Program_classes (fun vs H Q E h => ?_) (fun cdv A outer s H vs Q E hr h => ?_)
  · obtain ⟨x, dx, c, vb, keys, sh, rfl, _⟩ := h
    rfl
  obtain ⟨x, dx, c, vb, keys, sh, rfl, hx, hS, hnd, hk, q⟩ := h
  refine ⟨_, (pss_one (ps_ret (pe_c c__copied_classes hr (by decide) (by rfl) (pa_cons (pe_fld (pv 0) rfl) pa_nil)))), ?_⟩
  walk_at "rd"
  refine ⟨x, CP, dx, _, _, rfl, hx, pc.cl, pc.n1, rfl, ?_⟩
  walk_at "rd"
  exact ⟨c, keys, sh, rfl, hS, hnd, hk, q⟩
end
end SF

set_option Elab.async false
set_option linter.all false
set_option maxRecDepth 100000
set_option maxHeartbeats 4000000
/-! data made by written tuples; what single forms say; the law's draws -/
namespace SF
open PySem PySem.Spec PyProof.Rows L2 G0
/-! ### written data -/
def DE (K : PySem.W.Frag) (te : TE) (σ : L2.St) (H : Hp) (d : D) : Prop := ∀ H1, Same H H1 → ∀ Q : VK, (∀ H' v, Same H1 H' → Rep K H' d v → Q v H') → te σ H1 Q
def DA (K : PySem.W.Frag) (t : TA) (σ : L2.St) (H : Hp) (ds : List D) : Prop := ∀ H1, Same H H1 → ∀ QA : List V → Hp → Prop, (∀ H' vs, Same H1 H' → Reps K H' ds vs → QA vs H') → t σ H1 QA
section
variable {K : PySem.W.Frag} {σ : L2.St} {H : Hp}
theorem DA.nil : DA K tNil σ H [] := fun H1 s QA q => q H1 [] (Same.refl _) (reps_nil.mpr rfl)
theorem DA.cons {ta : TE} {t : TA} {d : D} {ds : List D} (h : DE K ta σ H d) (k : DA K t σ H ds) : DA K (tCons ta t) σ H (d :: ds) := fun H1 s QA q =>
  h H1 s _ fun H2 v s2 r => k H2 (s.trans s2) _ fun H3 vs s3 rs => q H3 (v :: vs) (s2.trans s3) (reps_cons.mpr ⟨v, vs, rfl, r.same s3, rs⟩)
theorem DE.tup {t : TA} {ds : List D} (k : DA K t σ H ds) (hl : ds.length ≤ 1000 := by decide) : DE K (tTup t) σ H (.t ds) := fun H1 s Q q =>
  k H1 s _ fun H2 vs s2 rs => ⟨by rw [← reps_len rs, sizeLine_eq]; omega, fun p np => q _ _ (s2.nw np) (rep_t.mpr ⟨p, vs, rfl, .inl (.inl upd_same), Reps.same ((Same.refl _).nw np) rs⟩)⟩
theorem DE.str {z : Str} (h : z.length ≤ 1000 := by decide +kernel) : DE K (tC (.str z)) σ H (.s z) := fun H1 s Q q => q H1 _ (Same.refl _) (rep_s.mpr ⟨rfl, h⟩)
theorem DE.var {i : Nat} {v : V} {d : D} (h : σ[i]? = some (some v)) (r : Rep K H d v) : DE K (tVar i) σ H d := fun H1 s Q q => ⟨v, h, q H1 v (Same.refl _) (r.same s)⟩
/-- .. and then -/
theorem DE.go {te : TE} {d : D} {Q : VK} (h : DE K te σ H d) (q : ∀ H' v, Same H H' → Rep K H' d v → Q v H') : te σ H Q := h H (Same.refl H) Q q
end
/-! ### single forms -/
section
variable {P : Pl} {dp t : Nat} {r : Bool} {d : D} {ds : List D}
theorem okI_name : okI P ⟨.name, d, dp, r, t⟩ = nameD d := by
  rw [okI_eq]
  unfold innerM leafOk
  cases h : nameD d <;> simp [isLeaf, h]
theorem okI_field : okI P ⟨.field, d, dp, r, t⟩ = (nameD d && P.fld (strOf d)) := by
  rw [okI_eq]
  unfold innerM leafOk
  cases h : nameD d <;> cases h2 : P.fld (strOf d) <;> simp [isLeaf, h, h2]
theorem okI_cls : okI P ⟨.cls, d, dp, r, t⟩ = (nameD d && P.cls (strOf d)) := by
  rw [okI_eq]
  unfold innerM leafOk
  cases h : nameD d <;> cases h2 : P.cls (strOf d) <;> simp [isLeaf, h, h2]
theorem okI_params : okI P ⟨.params, d, dp, r, t⟩ = namesD 0 3 d := by
  rw [okI_eq]
  unfold innerM leafOk
  cases h : namesD 0 3 d <;> simp [isLeaf, h]
theorem okI_block (h1 : dp < 8) (h2 : ds.length ≤ 12) : okI P ⟨.block, .t ds, dp, r, t⟩ = ds.all fun d => okI P ⟨.statement, d, dp + 1, r, 0⟩ := by
  rw [okI_eq]
  have e : innerM P ⟨.block, .t ds, dp, r, t⟩ = stmtsM ds dp r := rfl
  rw [e]
  unfold stmtsM
  rw [if_neg (fun z => by rcases z with z | z <;> omega)]
  dsimp only
  rw [List.all_map]
  rfl
theorem okI_fun (h1 : dp < 8) (h2 : ds.length ≤ 12) : okI P ⟨.function, .t ds, dp, r, t⟩ = ds.all fun d => okI P ⟨.statement, d, dp + 1, true, 0⟩ := by
  rw [okI_eq]
  have e : innerM P ⟨.function, .t ds, dp, r, t⟩ = stmtsM ds dp true := rfl
  rw [e]
  unfold stmtsM
  rw [if_neg (fun z => by rcases z with z | z <;> omega)]
  dsimp only
  rw [List.all_map]
  rfl
theorem okI_things (h2 : ds.length ≤ 3) : okI P ⟨.things, .t ds, dp, r, t⟩ = ds.all fun d => okI P ⟨.simple, d, dp, r, t⟩ := by
  rw [okI_eq]
  have e : innerM P ⟨.things, .t ds, dp, r, t⟩ = if 3 < ds.length then none else some (ds.map fun d => ⟨.simple, d, dp, r, t⟩) := rfl
  rw [e, if_neg (by omega)]
  dsimp only
  rw [List.all_map]
  rfl
def isForm : Kd → Bool
  | .simple => true | .right => true | .statement => true | .test => true | _ => false
theorem okI_form {k : Kd} {z : Str} {fs : List Kd} (hk : isForm k = true) (hf : formW k z = some fs) (hl : ds.length = fs.length) (ht : testsN k t ≤ 3) :
    okI P ⟨k, .t (.s z :: ds), dp, r, t⟩ = (mayS P z r && (fs.zip ds).all fun q => okI P ⟨q.1, q.2, dp, r, testsN k t⟩) := by
  rw [okI_eq]
  have e : innerM P ⟨k, .t (.s z :: ds), dp, r, t⟩ = partsM P k (.s z :: ds) dp r t := by
    cases k with
    | simple => rfl
    | right => rfl
    | statement => rfl
    | test => rfl
    | _ => cases hk
  rw [e]
  unfold partsM
  have e2 : formOf k (.s z :: ds) = some fs := hf
  rw [e2]
  dsimp only
  rw [if_neg (fun h => by rcases h with h | h; (· exact h (by rw [List.length_cons]; omega)); omega)]
  have e3 : mayS P (head (.s z :: ds)) r = mayS P z r := rfl
  rw [e3]
  cases mayS P z r with
  | true =>
    rw [if_pos rfl, Bool.true_and]
    dsimp only
    rw [List.all_map]
    rfl
  | false =>
    rw [if_neg Bool.false_ne_true]
    rfl
end
/-! ### the law's draws -/
def Btw (st : Addr) (H H' : Hp) : Prop := ∀ b u, b ≠ st → H b = some u → H' b = some u
theorem Btw.refl {st : Addr} {H : Hp} : Btw st H H := fun _ _ _ h => h
theorem Btw.trans {st : Addr} {H H' H2 : Hp} (a : Btw st H H') (b : Btw st H' H2) : Btw st H H2 := fun c u n h => b c u n (a c u n h)
theorem Btw.of {st : Addr} {H H' : Hp} (e : Same H H') : Btw st H H' := fun b u _ h => e b u h
structure DSt (H : Hp) (st : Addr) : Prop where
  ex : ∃ (cl : Addr) (ns : List Int) (at_ : Nat) (held seed : Int), H st = some (.lst [.ref cl, .int at_, .int held, .int seed]) ∧ H cl = some (.lst (ns.map V.int)) ∧ cl ≠ st ∧ ns.length ≤ 63 ∧ 0 ≤ held ∧ 0 ≤ seed ∧ seed < 2147483648
theorem DSt.same {H H' : Hp} {st : Addr} (h : DSt H st) (e : Same H H') : DSt H' st := by
  obtain ⟨cl, ns, at_, held, seed, h1, h2, h3⟩ := h.ex
  exact ⟨cl, ns, at_, held, seed, e _ _ h1, e _ _ h2, h3⟩
/-- data does not lie in the state's list -/
theorem DSt.lst {H : Hp} {st : Addr} (h : DSt H st) : ∃ xs, H st = some (.lst xs) := by
  obtain ⟨cl, ns, at_, held, seed, h1, _⟩ := h.ex
  exact ⟨_, h1⟩
mutual
def noO : D → Bool
  | .s _ => true
  | .t ds => noOs ds
  | .o => false
def noOs : List D → Bool
  | [] => true
  | d :: r => noO d && noOs r
end
theorem sqT_btw {K : PySem.W.Frag} {H H' : Hp} {st t : Addr} {xs ys : List V} (hs : H st = some (.lst ys)) (e : Btw st H H') (h : SqT K H t xs) : SqT K H' t xs := by
  rcases h with (h | ⟨o', h⟩) | h
  · exact .inl (.inl (e _ _ (fun z => by rw [z, hs] at h; cases h) h))
  · exact .inl (.inr ⟨o', e _ _ (fun z => by rw [z, hs] at h; cases h) h⟩)
  · exact .inr h
section
variable {K : PySem.W.Frag} {H H' : Hp} {st : Addr} {ys : List V}
mutual
theorem Rep.btw (hs : H st = some (.lst ys)) (e : Btw st H H') : ∀ {d : D} {v : V}, noO d = true → Rep K H d v → Rep K H' d v
  | .s x, v, _, h => by
    unfold Rep at h ⊢
    exact h
  | .t ds, v, n, h => by
    unfold Rep at h ⊢
    obtain ⟨p, vs, e1, e2, e3⟩ := h
    unfold noO at n
    exact ⟨p, vs, e1, sqT_btw hs e e2, Reps.btw hs e n e3⟩
  | .o, v, n, h => by
    unfold noO at n
    cases n
theorem Reps.btw (hs : H st = some (.lst ys)) (e : Btw st H H') : ∀ {ds : List D} {vs : List V}, noOs ds = true → Reps K H ds vs → Reps K H' ds vs
  | [], vs, _, h => by
    unfold Reps at h ⊢
    exact h
  | d :: ds, vs, n, h => by
    unfold Reps at h ⊢
    unfold noOs at n
    rw [Bool.and_eq_true] at n
    obtain ⟨v, r, e1, e2, e3⟩ := h
    exact ⟨v, r, e1, Rep.btw hs e n.1 e2, Reps.btw hs e n.2 e3⟩
end
end
/-- the state's first item stays -/
def Fst (H H' : Hp) (st : Addr) : Prop := ∀ x xs, H st = some (.lst (x :: xs)) → ∃ ys, H' st = some (.lst (x :: ys))
def spMix : Sp := fun vs H Q _ => ∃ (seed c : Int), vs = [.int seed, .int c] ∧ 0 ≤ seed ∧ seed < 2147483648 ∧ ∀ s : Int, 0 ≤ s → s < 2147483648 → Q (.int s) H
def spDraw : Sp := fun vs H Q _ => ∃ (st : Addr) (many : Nat), vs = [.ref st, .int many] ∧ DSt H st ∧ 0 < many ∧ many ≤ 1000 ∧ ∀ (k : Nat) (H' : Hp), k < many → Btw st H H' → DSt H' st → Fst H H' st → Q (.int k) H'
def spStart (K : PySem.W.Frag) : Sp := fun vs H Q _ => ∃ (a : Addr) (ns : List Int), vs = [.ref a] ∧ SqL K H a (ns.map V.int) ∧ ns.length ≤ 63 ∧ ∀ (H' : Hp) (st : Addr), Same H H' → H st = none → DSt H' st → Q (.ref st) H'
end SF

set_option Elab.async false
set_option linter.all false
set_option maxRecDepth 100000
set_option maxHeartbeats 4000000
/-! rules of our own: a tuple times 0, 1 or more; xs[i] += e -/
namespace G4
open PySem PySem.Spec PyProof.Rows L2
theorem tuple_mul1 (l : Addr) (items : Array Value) (n : Nat) (dd : Option Addr) (sl : Array (Option Value)) (u : Tok) :
    Meets (Builtin.«tuple.__mul__» ⟨[.ref l, .int 1 u], []⟩) (fun _ R s => s.heap.get? l = some { cls := .type "tuple", dict := dd, data := .seq items n, slots := sl } ∧ R (.ok (.ret (Value.ref l))) s) :=
  .of_wp fun prog w A R s h => by
    obtain ⟨hp, g, d, tk, os⟩ := s
    obtain ⟨hl, h⟩ := h
    have f1 := AutoSeq1.idx_int
    wp_walk using wpAny_loadPart' hl
    repeat (first
      | (refine wpAny_ite_true (decide_eq_true (by simp)) ?_; wp_walk using wpAny_loadPart' hl)
      | (refine wpAny_ite_false (decide_eq_false (by decide)) ?_; wp_walk using wpAny_loadPart' hl))
    exact ⟨_, rfl, h⟩
theorem tuple_mul0 (l : Addr) (items : Array Value) (n : Nat) (dd : Option Addr) (sl : Array (Option Value)) (u : Tok) (hi : items.isEmpty = false) :
    Meets (Builtin.«tuple.__mul__» ⟨[.ref l, .int 0 u], []⟩) (fun _ R s => s.heap.get? l = some { cls := .type "tuple", dict := dd, data := .seq items n, slots := sl } ∧
      R (.ok (.ret (Value.ref s.heap.objs.size))) { s with heap := s.heap.push { cls := Value.type "tuple", data := Data.seq #[] }, toks := s.toks }) :=
  .of_wp fun prog w A R s h => by
    obtain ⟨hp, g, d, tk, os⟩ := s
    obtain ⟨hl, h⟩ := h
    have f1 := AutoSeq1.idx_int
    have c1 : (items.isEmpty || (0 : Int) == 1) = false := by rw [hi]; rfl
    wp_walk using wpAny_loadPart' hl
    repeat (first
      | (refine wpAny_ite_false (decide_eq_false (by rw [c1]; exact Bool.false_ne_true)) ?_; wp_walk using wpAny_loadPart' hl)
      | (refine wpAny_ite_false (decide_eq_false (by decide)) ?_; wp_walk using wpAny_loadPart' hl)
      | (refine wpAny_ite_true (decide_eq_true (by simp)) ?_; wp_walk using wpAny_loadPart' hl)
      | (refine wpAny_ite_false (decide_eq_false (Nat.not_lt.mpr (Nat.zero_le _))) ?_; wp_walk using wpAny_loadPart' hl))
    exact ⟨_, rfl, h⟩
def rRepA (K : PySem.W.Frag) : R2 := fun x y H Q => ∃ l k xs, x = .ref l ∧ y = .int k ∧ SqT K H l xs ∧ xs ≠ [] ∧ xs.length ≤ 1000 ∧ ((k = 0 ∧ ∀ p, H p = none → Q (.ref p) (upd H p (.tup []))) ∨ (k = 1 ∧ Q (.ref l) H) ∨ (2 ≤ k ∧ k ≤ 1000 ∧ ∀ p, H p = none → Q (.ref p) (upd H p (.tup (List.replicate k.toNat xs).flatten))))
section
variable {X : Cx}
theorem op_repA : OpR X (binaryOp .Mult) (rRepA X.K) := by
  intro pins s σ H x y v u Q I rx ry h
  obtain ⟨l, k, xs, rfl, rfl, hT, hne, hz, q⟩ := h
  rcases q with ⟨rfl, q⟩ | ⟨rfl, q⟩ | ⟨h1, h2, q⟩
  · cases rx
    obtain ⟨t, rfl⟩ := ry
    obtain ⟨its, r, ⟨⟨cls, dd, data, sl⟩, ho, hc, n, hd⟩, hs⟩ := I.tuple hT
    simp only at hc hd
    subst hc hd
    have hle : its.length = xs.length := r.length.symm
    have hi : its.toArray.isEmpty = false := by
      cases its with
      | nil => exact absurd (List.eq_nil_of_length_eq_zero hle.symm) hne
      | cons a b => rfl
    refine wpAny_binaryOp_repeat_ref (T := "tuple") (U := "int") (by decide) ⟨_, ho, rfl⟩ (fun s' => typeIs_int s' 0 t) noFill_tuple_mul F.fills_int_mul F.slot_int_rmul repeat_tuple F.slot_int_index.lookup
      (call_meets F.slot_int_rmul (typeIs_int s 0 t) F.entry_int_rmul (F.args_int_rmul_2 _ _) (int_rmul_tuple 0 t l its.toArray n dd sl)
        ⟨ho, rfl, ⟨_, ho, rfl⟩, call_meets F.slot_tuple_mul ⟨_, ho, rfl⟩ F.entry_tuple_mul (F.args_tuple_mul_2 _ _) (tuple_mul0 l its.toArray n dd sl t hi) ⟨ho, ?_⟩⟩)
    refine ⟨.ref s.heap.objs.size, _, I.laid (t' := s.toks) (o := .tup []) (fun b ob q => Heap.get?_push_of_some _ q) (Nat.le_refl _) ?_, rfl, q _ (I.hok.fresh (Nat.le_refl _))⟩
    exact ⟨Nat.zero_le _, [], .nil, IsTup.new _ _⟩
  · cases rx
    obtain ⟨t, rfl⟩ := ry
    obtain ⟨its, r, ⟨⟨cls, dd, data, sl⟩, ho, hc, n, hd⟩, hs⟩ := I.tuple hT
    simp only at hc hd
    subst hc hd
    exact wpAny_binaryOp_repeat_ref (T := "tuple") (U := "int") (by decide) ⟨_, ho, rfl⟩ (fun s' => typeIs_int s' 1 t) noFill_tuple_mul F.fills_int_mul F.slot_int_rmul repeat_tuple F.slot_int_index.lookup
      (call_meets F.slot_int_rmul (typeIs_int s 1 t) F.entry_int_rmul (F.args_int_rmul_2 _ _) (int_rmul_tuple 1 t l its.toArray n dd sl)
        ⟨ho, rfl, ⟨_, ho, rfl⟩, call_meets F.slot_tuple_mul ⟨_, ho, rfl⟩ F.entry_tuple_mul (F.args_tuple_mul_2 _ _) (tuple_mul1 l its.toArray n dd sl t) ⟨ho, ⟨.ref l, H, I, rfl, q⟩⟩⟩)
  · exact op_repT pins s σ H _ _ v u Q I rx ry ⟨l, k, xs, rfl, rfl, hT, hne, h1, h2, hz, q⟩
/-- o[i] of a list, read for o[i] += e -/
theorem get_list : PGet X (fun o i H Q => ∃ (p : Addr) (xs : List V) (j : Nat) (v : V), o = .ref p ∧ i = .int j ∧ H p = some (.lst xs) ∧ j < 2 ^ 62 ∧ xs[j]? = some v ∧ Q v H) := by
  intro pins s σ H o i ov iv Q I ro ri h
  obtain ⟨p, xs, j, v, rfl, rfl, hp, hj, hv, q⟩ := h
  cases ro
  obtain ⟨t, rfl⟩ := ri
  obtain ⟨its, r, pl, hz⟩ := I.list (.inl (.inl hp))
  obtain ⟨u, hu, ru⟩ := r.get hv
  exact wpAny_getItem_list pl.isList (by omega) (by omega) (by simpa using hu) ⟨v, H, I, ru, q⟩
end
end G4

set_option Elab.async false
set_option linter.all false
set_option maxRecDepth 100000
set_option maxHeartbeats 4000000
namespace RD
open PySem PySem.Spec PyProof.Rows L2 G0
theorem ifJ {c : TT} {t1 : TS} {σ : L2.St} {H : Hp} {nx : L2.St → Hp → Prop} {rt : VK} {bk ct : L2.St → Hp → Prop} (Pd : L2.St → Hp → Prop) (hrest : ∀ σ' H', Pd σ' H' → nx σ' H') (h : (∀ σ' H', Pd σ' H' → nx σ' H') → tIfS c t1 tNext ⟨nx, rt, bk, ct⟩ σ H) : tIfS c t1 tNext ⟨nx, rt, bk, ct⟩ σ H := h hrest
end RD
namespace SF
open PySem PySem.Spec PyProof.Rows L2 G0
open C8 (Cal Mak Met pe_c pe_mk pe_mt pe_mt0 pe_gc)
theorem at2 {x y z : V} {r : List V} : atI (x :: y :: z :: r) 2 = some z := atI_nat (xs := x :: y :: z :: r) (j := 2) rfl
structure TxtL (K : PySem.W.Frag) (mg : Str → Option Value) : Prop extends Txt K mg where
  b_int : mg "int" = none
section
variable {P : Program} {w : World} {K : PySem.W.Frag} {mg : Str → Option Value} {base : Heap}
local macro_rules | `(tactic| walk_at "rd1") => `(tactic| first
  | (with_reducible refine RD.seq ?_) | (with_reducible refine RD.next ?_) | (with_reducible refine RD.ifS ?_) | (with_reducible refine RD.ret ?_) | (with_reducible refine RD.retN ?_) | (with_reducible refine RD.drop ?_) | (with_reducible refine RD.asg ?_) | (with_reducible refine RD.gname ?_)
  | ((with_reducible apply RD.var); exact rfl) | (with_reducible refine RD.c_ ?_) | (with_reducible refine RD.op ?_) | (with_reducible refine RD.un ?_) | (with_reducible refine RD.cb ?_) | (with_reducible refine RD.cons ?_) | (with_reducible refine RD.nil ?_) | (with_reducible refine RD.tup ?_) | (with_reducible refine RD.lst ?_)
  | (with_reducible refine RD.B_ ?_) | (with_reducible refine RD.test ?_) | (with_reducible refine RD.exB ?_) | (with_reducible refine RD.exI ?_) | (with_reducible refine RD.and_ ?_) | (with_reducible refine RD.or_ ?_) | (with_reducible refine RD.not_ ?_) | (with_reducible refine RD.andV ?_) | (with_reducible refine RD.orV ?_) | (with_reducible refine RD.notV ?_) | (with_reducible refine RD.if_ ?_)
  | (with_reducible refine RD.ifT ?_) | (with_reducible refine RD.ifF ?_) | (with_reducible refine RD.ifNT ?_) | (with_reducible refine RD.ifNF ?_) | (with_reducible refine RD.yes ?_) | (with_reducible refine RD.sl ?_) | (with_reducible refine RD.noPart ?_) | (with_reducible refine RD.part ?_) | (with_reducible refine RD.i0 ?_) | (with_reducible refine RD.eqS ?_) | (with_reducible refine RD.eqI ?_) | (with_reducible refine RD.neS ?_) | (with_reducible refine RD.neI ?_)
  | (with_reducible refine RD.isN_n ?_) | (with_reducible refine RD.isN_r ?_) | (with_reducible refine RD.isN_s ?_) | (with_reducible refine RD.isN_b ?_) | (with_reducible refine RD.isN_i ?_) | (with_reducible refine RD.notN_n ?_) | (with_reducible refine RD.notN_r ?_) | (with_reducible refine RD.notN_s ?_)
  | (with_reducible refine RD.call ?_) | (with_reducible refine RD.make ?_) | (with_reducible refine RD.gcons ?_) | (with_reducible refine RD.gnil ?_) | (with_reducible refine RD.bm ?_) | (with_reducible refine RD.bm0 ?_) | (with_reducible refine RD.dget ?_) | (with_reducible refine RD.din ?_) | (with_reducible refine RD.tfld ?_) | (with_reducible refine RD.then_ ?_) | (with_reducible refine RD.chain ?_) | (with_reducible refine RD.itup ?_) | (with_reducible refine RD.ikeys ?_) | (with_reducible refine RD.ivals ?_) | (with_reducible refine RD.iitems ?_) | (with_reducible refine RD.lset ?_) | (with_reducible refine RD.ilist ?_) | ((with_reducible apply RD.aug); exact rfl))
local macro_rules | `(tactic| walk_at "rd") => `(tactic| repeat walk_at "rd1")

theorem sc__law_mix : FnScope ["_law_seed", "_law_cell", "_law_number"] ["_law_seed", "_law_cell"] (defScope (topS 50)) := ⟨rfl, rfl, rfl, by decide +kernel, rfl, by decide +kernel, by decide +kernel⟩
theorem ok_mix (T : TxtL K mg) {f : Addr} {fd : FuncData} (F : Fun K "_law_mix" "_law_mix" (topS 50) f fd) : FnOk P w K mg base CX0 1 f fd ["_law_seed", "_law_cell"] spMix := by
  refine F.ok sc__law_mix (fun vs H Q E h => ?_) (fun cdv A outer s H vs Q E hr h => ?_)
  · obtain ⟨seed, c, rfl, _⟩ := h
    rfl
  obtain ⟨seed, c, rfl, h0, h1, q⟩ := h
  refine ⟨_, (pss_cons (ps_set (i := 2) sc__law_mix.nd rfl (Or.inl rfl) (pe_op op_mod (pe_op op_mul (pe_op op_add (pe_op op_add (pv 0) (pe_op op_mod (pe_callTy call_int1 (by rfl) T.b_int (by decide +kernel) (pa_cons (pv 1) pa_nil)) pe_int)) pe_int) pe_int) pe_int))
      (pss_cons (ps_set (i := 2) sc__law_mix.nd rfl (Or.inl rfl) (pe_op op_mod (pe_op op_mul (pv 2) (pe_op op_add (pe_op op_fdivW (pv 2) pe_int) pe_int)) pe_int))
      (pss_one (ps_ret (pe_op op_mod (pe_op op_mul (pv 2) (pe_op op_add (pe_op op_fdivW (pv 2) pe_int) pe_int)) pe_int))))), ?_⟩
  walk_at "rd"
  refine .inl ⟨c, rfl, ?_⟩
  walk_at "rd"
  refine RD.i1 (by decide) ?_
  have m0 : 0 ≤ c % 2147483629 := Int.emod_nonneg _ (by decide)
  have m1 : c % 2147483629 < 2147483629 := Int.emod_lt_of_pos _ (by decide)
  generalize c % 2147483629 = m at m0 m1
  walk_at "rd"
  refine RD.i1 (.inl ⟨by omega, by omega⟩) ?_
  walk_at "rd"
  refine RD.i1 (by decide) ?_
  have a0 : 0 ≤ (seed + m + 7919) * 48271 % 2147483647 := Int.emod_nonneg _ (by decide)
  have a1 : (seed + m + 7919) * 48271 % 2147483647 < 2147483647 := Int.emod_lt_of_pos _ (by decide)
  generalize (seed + m + 7919) * 48271 % 2147483647 = a at a0 a1
  walk_at "rd"
  refine RD.i1 ⟨by decide, by decide +kernel⟩ ?_
  walk_at "rd"
  refine RD.i1 (.inl ⟨by omega, by omega⟩) ?_
  walk_at "rd"
  refine RD.i1 (by decide) ?_
  have b0 : 0 ≤ a * (a / 1009 + 69621) % 2147483647 := Int.emod_nonneg _ (by decide)
  have b1 : a * (a / 1009 + 69621) % 2147483647 < 2147483647 := Int.emod_lt_of_pos _ (by decide)
  generalize a * (a / 1009 + 69621) % 2147483647 = b at b0 b1
  walk_at "rd"
  refine RD.i1 ⟨by decide, by decide +kernel⟩ ?_
  walk_at "rd"
  refine RD.i1 (.inl ⟨by omega, by omega⟩) ?_
  walk_at "rd"
  refine RD.i1 (by decide) ?_
  have c0 : 0 ≤ b * (b / 2003 + 40692) % 2147483399 := Int.emod_nonneg _ (by decide)
  have c1 : b * (b / 2003 + 40692) % 2147483399 < 2147483399 := Int.emod_lt_of_pos _ (by decide)
  exact q _ c0 (by omega)
theorem sc__law_draw : FnScope ["_law_state", "_law_many", "_law_cells", "_law_digit", "_law_cell"] ["_law_state", "_law_many"] (defScope (topS 52)) := ⟨rfl, rfl, rfl, by decide +kernel, rfl, by decide +kernel, by decide +kernel⟩
theorem ok_draw (T : TxtL K mg) (c__law_mix : Cal P w K mg base 1 "_law_mix" spMix []) {f : Addr} {fd : FuncData} (F : Fun K "_law_draw" "_law_draw" (topS 52) f fd) : FnOk P w K mg base CX0 2 f fd ["_law_state", "_law_many"] spDraw := by
  refine F.ok sc__law_draw (fun vs H Q E h => ?_) (fun cdv A outer s H vs Q E hr h => ?_)
  · obtain ⟨st, many, rfl, _⟩ := h
    rfl
  obtain ⟨st, many, rfl, ⟨cl, ns, at_, held, seed, hst, hcl, hne, hlen, hh0, hs0, hs1⟩, hm0, hm1, q⟩ := h
  refine ⟨_, (pss_cons (ps_set (i := 2) sc__law_draw.nd rfl (Or.inl rfl) (pe_ix ix_list (pv 0) pe_int (fun _ _ => rfl)))
      (pss_cons (ps_if ((pw_and (pt_cmpR op_eq (pe_ix ix_list (pv 0) pe_int (fun _ _ => rfl)) pe_int (nomark _)) (pw_and (pt_cmpR op_lt (pe_ix ix_list (pv 0) pe_int (fun _ _ => rfl)) (pe_callB call_lenQ (by rfl) T.b_len PySem.boot_len (pa_cons (pv 2) pa_nil)) (nomark _)) (pw_and1 (pt_cmpR op_ge (pe_ix ix_list (pv 2) (pe_ix ix_list (pv 0) pe_int (fun _ _ => rfl)) (fun _ _ => rfl)) (pe_op op_pow pe_int pe_int) (nomark _)))))).pt (pss_cons (ps_asg (pe_ix ix_list (pv 2) (pe_ix ix_list (pv 0) pe_int (fun _ _ => rfl)) (fun _ _ => rfl)) (pg_sub (pv 0) pe_int set_list))
      (pss_one (ps_augS (pv 0) pe_int G4.get_list pe_int ip_add set_list))) pss_nil)
      (pss_cons (ps_if (pt_cmpR op_gt (pe_ix ix_list (pv 0) pe_int (fun _ _ => rfl)) pe_int (nomark _)) (pss_cons (ps_set (i := 3) sc__law_draw.nd rfl (Or.inl rfl) (pe_op op_mod (pe_callTy call_int1 (by rfl) T.b_int (by decide +kernel) (pa_cons (pe_ix ix_list (pv 0) pe_int (fun _ _ => rfl)) pa_nil)) (pv 1)))
      (pss_cons (ps_asg (pe_op op_fdivW (pe_ix ix_list (pv 0) pe_int (fun _ _ => rfl)) (pv 1)) (pg_sub (pv 0) pe_int set_list))
      (pss_one (ps_ret (pv 3))))) pss_nil)
      (pss_cons (ps_set (i := 4) sc__law_draw.nd rfl (Or.inl rfl) (pe_ix ix_list (pv 0) pe_int (fun _ _ => rfl)))
      (pss_cons (ps_if (pt_cmpR op_lt (pe_ix ix_list (pv 0) pe_int (fun _ _ => rfl)) (pe_callB call_lenQ (by rfl) T.b_len PySem.boot_len (pa_cons (pv 2) pa_nil)) (nomark _)) (pss_one (ps_set (i := 4) sc__law_draw.nd rfl (Or.inl rfl) (pe_op op_add (pv 4) (pe_ix ix_list (pv 2) (pe_ix ix_list (pv 0) pe_int (fun _ _ => rfl)) (fun _ _ => rfl))))) pss_nil)
      (pss_cons (ps_augS (pv 0) pe_int G4.get_list pe_int ip_add set_list)
      (pss_cons (ps_asg (pe_c c__law_mix hr (by decide) (by rfl) (pa_cons (pe_ix ix_list (pv 0) pe_int (fun _ _ => rfl)) (pa_cons (pv 4) pa_nil))) (pg_sub (pv 0) pe_int set_list))
      (pss_one (ps_ret (pe_op op_mod (pe_op op_fdivW (pe_callTy call_int1 (by rfl) T.b_int (by decide +kernel) (pa_cons (pe_ix ix_list (pv 0) pe_int (fun _ _ => rfl)) pa_nil)) pe_int) (pv 1))))))))))), ?_⟩
  have hcells : ∀ {H'}, Btw st H H' → SqL K H' cl (ns.map V.int) := fun e => .inl (.inl (e _ _ hne hcl))
  walk_at "rd"
  refine RD.ixL (.inl (.inl hst)) at0 ?_
  with_reducible refine RD.gname ?_
  with_reducible refine RD.seq ?_
  refine RD.ifJ (fun σ' H' => σ' = [some (.ref st), some (.int many), some (.ref cl), none, none] ∧ ∃ (a' : Nat) (held' : Int), Btw st H H' ∧ H' st = some (.lst [.ref cl, .int a', .int held', .int seed]) ∧ 0 ≤ held') (fun σ' H1 hP => ?_) (fun hrest => ?_)
  · obtain ⟨rfl, a', held', hb, hst1, hh1⟩ := hP
    walk_at "rd"
    refine RD.ixL (.inl (.inl hst1)) at2 ?_
    walk_at "rd"
    refine ite2 (fun h1 => ?_) (fun h1 => ?_)
    · have hp := of_decide_eq_true h1
      walk_at "rd"
      refine RD.ixL (.inl (.inl hst1)) at2 ?_
      walk_at "rd"
      refine .inl ⟨held', rfl, ?_⟩
      walk_at "rd"
      refine RD.i1 (by omega) ?_
      walk_at "rd"
      refine RD.ixL (.inl (.inl hst1)) at2 ?_
      walk_at "rd"
      refine RD.i1 (wide_div (b := 20) (by omega) (by omega) (by decide) (by decide)) ?_
      refine ⟨_, rfl, ⟨st, _, 2, 2, rfl, rfl, hst1, rfl, ?_⟩⟩
      walk_at "rd"
      have e0 : 0 ≤ held' % (many : Int) := Int.emod_nonneg _ (by omega)
      have e1 : held' % (many : Int) < many := Int.emod_lt_of_pos _ (by omega)
      have e2 : ((held' % (many : Int)).toNat : Int) = held' % (many : Int) := Int.toNat_of_nonneg e0
      rw [← e2]
      refine q _ _ (by omega) (fun b u hb2 hu => by rw [upd_ne hb2]; exact hb b u hb2 hu) ⟨cl, ns, a', held' / (many : Int), seed, upd_same, by rw [upd_ne hne]; exact hb _ _ hne hcl, hne, hlen, Int.ediv_nonneg hh1 (by omega), hs0, hs1⟩ (fun x xs e => by rw [hst] at e; cases e; exact ⟨_, upd_same⟩)
    · walk_at "rd"
      refine RD.ixL (.inl (.inl hst1)) at1 ?_
      with_reducible refine RD.gname ?_
      with_reducible refine RD.seq ?_
      refine RD.ifJ (fun σ' H' => (∃ c : Int, σ' = [some (.ref st), some (.int many), some (.ref cl), none, some (.int c)]) ∧ H' = H1) (fun σ' H2 hP => ?_) (fun hrest => ?_)
      · obtain ⟨⟨c, rfl⟩, rfl⟩ := hP
        with_reducible refine RD.seq ?_
        refine ⟨_, rfl, ⟨st, _, 1, _, rfl, rfl, hst1, by decide, rfl, ?_⟩⟩
        refine ⟨_, _, rfl, rfl, ⟨st, _, 1, 1, rfl, rfl, hst1, rfl, ?_⟩⟩
        dsimp only [List.set]
        walk_at "rd"
        refine RD.ixL (.inl (.inl upd_same)) at3 ?_
        walk_at "rd"
        refine ⟨seed, c, rfl, hs0, hs1, fun s2 g0 g1 => ?_⟩
        refine ⟨_, rfl, ⟨st, _, 3, 3, rfl, rfl, upd_same, rfl, ?_⟩⟩
        dsimp only [List.set]
        walk_at "rd"
        refine RD.ixL (.inl (.inl upd_same)) at3 ?_
        walk_at "rd"
        refine .inl ⟨s2, rfl, ?_⟩
        walk_at "rd"
        refine RD.i1 ⟨by decide, by decide +kernel⟩ ?_
        walk_at "rd"
        refine RD.i1 (by omega) ?_
        have e0 : 0 ≤ s2 / 16 % (many : Int) := Int.emod_nonneg _ (by omega)
        have e1 : s2 / 16 % (many : Int) < many := Int.emod_lt_of_pos _ (by omega)
        have e2 : ((s2 / 16 % (many : Int)).toNat : Int) = s2 / 16 % (many : Int) := Int.toNat_of_nonneg e0
        rw [← e2]
        exact q _ _ (by omega) (fun b u hb2 hu => by rw [upd_ne hb2, upd_ne hb2]; exact hb b u hb2 hu) ⟨cl, ns, a' + 1, held', s2, upd_same, by rw [upd_ne hne, upd_ne hne]; exact hb _ _ hne hcl, hne, hlen, hh1, g0, g1⟩ (fun x xs e => by rw [hst] at e; cases e; exact ⟨_, upd_same⟩)
      · walk_at "rd"
        refine RD.ixL (.inl (.inl hst1)) at1 ?_
        walk_at "rd"
        refine lenQl (hcells hb) ?_
        walk_at "rd"
        refine ite2 (fun h2 => ?_) (fun h2 => ?_)
        · have hp := of_decide_eq_true h2
          rw [List.length_map] at hp
          have ha : a' < ns.length := by omega
          walk_at "rd"
          refine RD.ixL (.inl (.inl hst1)) at1 ?_
          walk_at "rd"
          refine RD.ixL (hcells hb) (atI_nat (v := V.int ns[a']) (by rw [List.getElem?_map, List.getElem?_eq_getElem ha]; rfl)) ?_
          walk_at "rd"
          exact hrest _ _ ⟨⟨_, rfl⟩, rfl⟩
        · (first | with_reducible refine RD.next ?_ | (with_reducible refine RD.ifF ?_; with_reducible refine RD.next ?_))
          exact hrest _ _ ⟨⟨_, rfl⟩, rfl⟩
  · walk_at "rd"
    refine RD.ixL (.inl (.inl hst)) at2 ?_
    walk_at "rd"
    refine ite2 (fun h1 => ?_) (fun h1 => ?_)
    · walk_at "rd"
      refine RD.ixL (.inl (.inl hst)) at1 ?_
      walk_at "rd"
      refine lenQl (hcells Btw.refl) ?_
      walk_at "rd"
      refine ite2 (fun h2 => ?_) (fun h2 => ?_)
      · have hp := of_decide_eq_true h2
        rw [List.length_map] at hp
        have ha : at_ < ns.length := by omega
        have hat : atI (ns.map V.int) ((at_ : Nat) : Int) = some (V.int ns[at_]) := atI_nat (by rw [List.getElem?_map, List.getElem?_eq_getElem ha]; rfl)
        walk_at "rd"
        refine RD.ixL (.inl (.inl hst)) at1 ?_
        walk_at "rd"
        refine RD.ixL (hcells Btw.refl) hat ?_
        walk_at "rd"
        refine RD.i1 ⟨by decide, by decide, by decide⟩ ?_
        walk_at "rd"
        refine ite2 (fun h3 => ?_) (fun h3 => ?_)
        · have hbig := of_decide_eq_true h3
          have hpos : 0 ≤ ns[at_] := by
            have : (0 : Int) ≤ 10 ^ (18 : Int).toNat := by decide
            omega
          walk_at "rd"
          refine RD.ixL (.inl (.inl hst)) at1 ?_
          walk_at "rd"
          refine RD.ixL (hcells Btw.refl) hat ?_
          refine ⟨_, rfl, ⟨st, _, 2, 2, rfl, rfl, hst, rfl, ?_⟩⟩
          dsimp only [List.set]
          refine ⟨_, rfl, ⟨st, _, 1, _, rfl, rfl, upd_same, by decide, rfl, ?_⟩⟩
          refine ⟨_, _, rfl, rfl, ⟨st, _, 1, 1, rfl, rfl, upd_same, rfl, ?_⟩⟩
          dsimp only [List.set]
          exact hrest _ _ ⟨rfl, at_ + 1, ns[at_], fun b u hb2 hu => by rw [upd_ne hb2, upd_ne hb2]; exact hu, upd_same, hpos⟩
        · (first | with_reducible refine RD.next ?_ | (with_reducible refine RD.ifF ?_; with_reducible refine RD.next ?_))
          exact hrest _ _ ⟨rfl, at_, held, Btw.refl, hst, hh0⟩
      · (first | with_reducible refine RD.next ?_ | (with_reducible refine RD.ifF ?_; with_reducible refine RD.next ?_))
        exact hrest _ _ ⟨rfl, at_, held, Btw.refl, hst, hh0⟩
    · (first | with_reducible refine RD.next ?_ | (with_reducible refine RD.ifF ?_; with_reducible refine RD.next ?_))
      exact hrest _ _ ⟨rfl, at_, held, Btw.refl, hst, hh0⟩
end
end SF

set_option Elab.async false
set_option linter.all false
set_option maxRecDepth 100000
set_option maxHeartbeats 4000000
/-! k04: what the law builds, and when it fits -/
namespace SF
open PySem PySem.Spec PyProof.Rows L2 G0
def noneD : D := .t [.s "none"]
def wD (z : Str) : D := .t [.s "word", .s z]
def simpleD : Nat → Str → D
  | 0, _ => .t [.s "me"]
  | 1, z => .t [.s "field", .s z]
  | _, z => .t [.s "new", .s z]
def withD (one : D) : Nat → D
  | 0 => .t [.s "let", .s "v", one]
  | 1 => .t [.s "raise", one]
  | 2 => .t [.s "print", one]
  | 3 => .t [.s "do", .t [.s "call", one, .t []]]
  | 4 => .t [.s "do", .t [.s "ask", one, .s "go", .t []]]
  | 5 => .t [.s "set", .s "v", .t [.s "call", .t [.s "name", .s "v"], .t [noneD, one]]]
  | 6 => .t [.s "do", .t [.s "ask", .t [.s "name", .s "v"], .s "go", .t [one]]]
  | 7 => .t [.s "while", .t [.s "not", .t [.s "same", noneD, one]], .t []]
  | _ => .t [.s "if", .t [.s "both", .t [.s "same", noneD, noneD], .t [.s "same", one, noneD]], .t [], .t []]
def testD : D := .t [.s "same", wD "a", wD "b"]
def nestD (b : D) : Nat → D
  | 0 => .t [.s "do", .t [.s "fn", .t [.s "x"], b]]
  | 1 => .t [.s "let", .s "v", .t [.s "call", .t [.s "fn", .t [], b], .t []]]
  | 2 => .t [.s "if", testD, .t [], b]
  | 3 => .t [.s "while", testD, b]
  | 4 => .t [.s "try", b, .s "e", .t []]
  | 5 => .t [.s "try", .t [], .s "e", b]
  | _ => .t [.s "last", .t [], b]
section
variable {P : Pl} {dp t : Nat} {r : Bool} {one b : D} {z : Str}
theorem all2 {α : Type} {f : α → Bool} {a b : α} : [a, b].all f = (f a && f b) := by simp
theorem all3 {α : Type} {f : α → Bool} {a b c : α} : [a, b, c].all f = (f a && (f b && f c)) := by simp
theorem all1 {α : Type} {f : α → Bool} {a : α} : [a].all f = f a := by simp
theorem nm_v : nameD (.s "v") = true := by decide +kernel
theorem nm_e : nameD (.s "e") = true := by decide +kernel
theorem nm_a : nameD (.s "a") = true := by decide +kernel
theorem nm_b : nameD (.s "b") = true := by decide +kernel
theorem nm_go : nameD (.s "go") = true := by decide +kernel
theorem pr_x : namesD 0 3 (.t [.s "x"]) = true := by decide +kernel
theorem pr_0 : namesD 0 3 (.t []) = true := by decide +kernel
theorem ms {w : Str} (h1 : w ≠ ("me" : Str)) (h2 : w ≠ ("parent" : Str)) (h3 : w ≠ ("return" : Str)) : mayS P w r = true := by
  unfold mayS
  rw [if_neg h1, if_neg h2, if_neg h3]
/-- one form, two items .. -/
theorem form1 {k : Kd} {w : Str} {f1 : Kd} {a : D} (hk : isForm k = true) (hf : formW k w = some [f1]) (ht : testsN k t ≤ 3) (h1 : w ≠ ("me" : Str)) (h2 : w ≠ ("parent" : Str)) (h3 : w ≠ ("return" : Str)) : okI P ⟨k, .t [.s w, a], dp, r, t⟩ = okI P ⟨f1, a, dp, r, testsN k t⟩ := by
  rw [okI_form hk hf rfl ht, ms h1 h2 h3, Bool.true_and]
  exact all1
theorem form0 {k : Kd} {w : Str} (hk : isForm k = true) (hf : formW k w = some []) (ht : testsN k t ≤ 3) : okI P ⟨k, .t [.s w], dp, r, t⟩ = mayS P w r := by
  rw [okI_form hk hf rfl ht]
  exact Bool.and_true _
theorem form2 {k : Kd} {w : Str} {f1 f2 : Kd} {a b : D} (hk : isForm k = true) (hf : formW k w = some [f1, f2]) (ht : testsN k t ≤ 3) (h1 : w ≠ ("me" : Str)) (h2 : w ≠ ("parent" : Str)) (h3 : w ≠ ("return" : Str)) : okI P ⟨k, .t [.s w, a, b], dp, r, t⟩ = (okI P ⟨f1, a, dp, r, testsN k t⟩ && okI P ⟨f2, b, dp, r, testsN k t⟩) := by
  rw [okI_form hk hf rfl ht, ms h1 h2 h3, Bool.true_and]
  exact all2
theorem form3 {k : Kd} {w : Str} {f1 f2 f3 : Kd} {a b c : D} (hk : isForm k = true) (hf : formW k w = some [f1, f2, f3]) (ht : testsN k t ≤ 3) (h1 : w ≠ ("me" : Str)) (h2 : w ≠ ("parent" : Str)) (h3 : w ≠ ("return" : Str)) : okI P ⟨k, .t [.s w, a, b, c], dp, r, t⟩ = (okI P ⟨f1, a, dp, r, testsN k t⟩ && (okI P ⟨f2, b, dp, r, testsN k t⟩ && okI P ⟨f3, c, dp, r, testsN k t⟩)) := by
  rw [okI_form hk hf rfl ht, ms h1 h2 h3, Bool.true_and]
  exact all3
theorem ok_none (ht : t ≤ 3) : okI P ⟨.simple, noneD, dp, r, t⟩ = true := by
  rw [noneD, form0 (k := .simple) rfl (by decide +kernel) ht]
  exact ms (by decide +kernel) (by decide +kernel) (by decide +kernel)
theorem ok_noneR (ht : t ≤ 3) : okI P ⟨.right, noneD, dp, r, t⟩ = true := by
  rw [noneD, form0 (k := .right) rfl (by decide +kernel) ht]
  exact ms (by decide +kernel) (by decide +kernel) (by decide +kernel)
theorem ok_word (ht : t ≤ 3) (hz : nameD (.s z) = true) : okI P ⟨.simple, wD z, dp, r, t⟩ = true := by
  rw [wD, form1 (k := .simple) (f1 := .name) rfl (by decide +kernel) ht (by decide +kernel) (by decide +kernel) (by decide +kernel), okI_name, hz]
theorem ok_wordR (ht : t ≤ 3) (hz : nameD (.s z) = true) : okI P ⟨.right, wD z, dp, r, t⟩ = true := by
  rw [wD, form1 (k := .right) (f1 := .name) rfl (by decide +kernel) ht (by decide +kernel) (by decide +kernel) (by decide +kernel), okI_name, hz]
theorem ok_nameV (ht : t ≤ 3) : okI P ⟨.simple, .t [.s "name", .s "v"], dp, r, t⟩ = true := by
  rw [form1 (k := .simple) (f1 := .name) rfl (by decide +kernel) ht (by decide +kernel) (by decide +kernel) (by decide +kernel), okI_name, nm_v]
theorem ok_doNone : okI P ⟨.statement, .t [.s "do", noneD], dp, r, 0⟩ = true := by
  rw [form1 (f1 := .right) rfl (by decide +kernel) (by decide +kernel) (by decide +kernel) (by decide +kernel) (by decide +kernel)]
  exact ok_noneR (by decide)
theorem ok_empty (h : dp < 8) : okI P ⟨.block, .t [], dp, r, t⟩ = true := by
  rw [okI_block h (by decide)]
  rfl
theorem ok_thingsE : okI P ⟨.things, .t [], dp, r, t⟩ = true := by
  rw [okI_things (by decide)]
  rfl
theorem ok_test : okI P ⟨.test, testD, dp, r, testsN .statement 0⟩ = true := by
  rw [testD, form2 (f1 := .simple) (f2 := .simple) rfl (by decide +kernel) (by decide +kernel) (by decide +kernel) (by decide +kernel) (by decide +kernel), ok_word (by decide) nm_a, ok_word (by decide) nm_b]
  rfl
/-- what a simple thing says -/
def simpleB (P : Pl) : Nat → Str → Bool
  | 0, _ => P.im
  | 1, z => nameS z && P.fld z
  | _, z => nameS z && P.cls z
theorem ok_simple (ht : t ≤ 3) : ∀ k : Nat, okI P ⟨.simple, simpleD k z, dp, r, t⟩ = simpleB P k z
  | 0 => by
    show okI P ⟨.simple, .t [.s "me"], dp, r, t⟩ = _
    rw [form0 (k := .simple) rfl (by decide +kernel) ht]
    show (if ("me" : Str) = "me" then P.im else _) = P.im
    rw [if_pos rfl]
  | 1 => by
    show okI P ⟨.simple, .t [.s "field", .s z], dp, r, t⟩ = _
    rw [form1 (k := .simple) (f1 := .field) rfl (by decide +kernel) ht (by decide +kernel) (by decide +kernel) (by decide +kernel), okI_field]
    rfl
  | k + 2 => by
    show okI P ⟨.simple, .t [.s "new", .s z], dp, r, t⟩ = _
    rw [form1 (k := .simple) (f1 := .cls) rfl (by decide +kernel) ht (by decide +kernel) (by decide +kernel) (by decide +kernel), okI_cls]
    rfl
theorem ok_simpleR (ht : t ≤ 3) : ∀ k : Nat, okI P ⟨.right, simpleD k z, dp, r, t⟩ = simpleB P k z
  | 0 => by
    show okI P ⟨.right, .t [.s "me"], dp, r, t⟩ = _
    rw [form0 (k := .right) rfl (by decide +kernel) ht]
    show (if ("me" : Str) = "me" then P.im else _) = P.im
    rw [if_pos rfl]
  | 1 => by
    show okI P ⟨.right, .t [.s "field", .s z], dp, r, t⟩ = _
    rw [form1 (k := .right) (f1 := .field) rfl (by decide +kernel) ht (by decide +kernel) (by decide +kernel) (by decide +kernel), okI_field]
    rfl
  | k + 2 => by
    show okI P ⟨.right, .t [.s "new", .s z], dp, r, t⟩ = _
    rw [form1 (k := .right) (f1 := .cls) rfl (by decide +kernel) ht (by decide +kernel) (by decide +kernel) (by decide +kernel), okI_cls]
    rfl
theorem ok_with (h : dp < 8) (k : Nat) : ∀ w : Nat, okI P ⟨.statement, withD (simpleD k z) w, dp, r, 0⟩ = simpleB P k z
  | 0 => by
    show okI P ⟨.statement, .t [.s "let", .s "v", simpleD k z], dp, r, 0⟩ = _
    rw [form2 (f1 := .name) (f2 := .right) rfl (by decide +kernel) (by decide +kernel) (by decide +kernel) (by decide +kernel) (by decide +kernel), okI_name, nm_v, Bool.true_and]
    exact ok_simpleR (by decide) k
  | 1 => by
    show okI P ⟨.statement, .t [.s "raise", simpleD k z], dp, r, 0⟩ = _
    rw [form1 (f1 := .right) rfl (by decide +kernel) (by decide +kernel) (by decide +kernel) (by decide +kernel) (by decide +kernel)]
    exact ok_simpleR (by decide) k
  | 2 => by
    show okI P ⟨.statement, .t [.s "print", simpleD k z], dp, r, 0⟩ = _
    rw [form1 (f1 := .simple) rfl (by decide +kernel) (by decide +kernel) (by decide +kernel) (by decide +kernel) (by decide +kernel)]
    exact ok_simple (by decide) k
  | 3 => by
    show okI P ⟨.statement, .t [.s "do", .t [.s "call", simpleD k z, .t []]], dp, r, 0⟩ = _
    rw [form1 (f1 := .right) rfl (by decide +kernel) (by decide +kernel) (by decide +kernel) (by decide +kernel) (by decide +kernel), form2 (f1 := .simple) (f2 := .things) rfl (by decide +kernel) (by decide +kernel) (by decide +kernel) (by decide +kernel) (by decide +kernel), ok_thingsE, Bool.and_true]
    exact ok_simple (by decide) k
  | 4 => by
    show okI P ⟨.statement, .t [.s "do", .t [.s "ask", simpleD k z, .s "go", .t []]], dp, r, 0⟩ = _
    rw [form1 (f1 := .right) rfl (by decide +kernel) (by decide +kernel) (by decide +kernel) (by decide +kernel) (by decide +kernel), form3 (f1 := .simple) (f2 := .name) (f3 := .things) rfl (by decide +kernel) (by decide +kernel) (by decide +kernel) (by decide +kernel) (by decide +kernel), ok_thingsE, okI_name, nm_go, Bool.and_true, Bool.and_true]
    exact ok_simple (by decide) k
  | 5 => by
    show okI P ⟨.statement, .t [.s "set", .s "v", .t [.s "call", .t [.s "name", .s "v"], .t [noneD, simpleD k z]]], dp, r, 0⟩ = _
    rw [form2 (f1 := .name) (f2 := .right) rfl (by decide +kernel) (by decide +kernel) (by decide +kernel) (by decide +kernel) (by decide +kernel), okI_name, nm_v, Bool.true_and, form2 (f1 := .simple) (f2 := .things) rfl (by decide +kernel) (by decide +kernel) (by decide +kernel) (by decide +kernel) (by decide +kernel), ok_nameV (by decide), Bool.true_and, okI_things (by show 2 ≤ 3; decide), all2, ok_none (by decide), Bool.true_and]
    exact ok_simple (by decide) k
  | 6 => by
    show okI P ⟨.statement, .t [.s "do", .t [.s "ask", .t [.s "name", .s "v"], .s "go", .t [simpleD k z]]], dp, r, 0⟩ = _
    rw [form1 (f1 := .right) rfl (by decide +kernel) (by decide +kernel) (by decide +kernel) (by decide +kernel) (by decide +kernel), form3 (f1 := .simple) (f2 := .name) (f3 := .things) rfl (by decide +kernel) (by decide +kernel) (by decide +kernel) (by decide +kernel) (by decide +kernel), ok_nameV (by decide), okI_name, nm_go, Bool.true_and, Bool.true_and, okI_things (by show 1 ≤ 3; decide), all1]
    exact ok_simple (by decide) k
  | 7 => by
    show okI P ⟨.statement, .t [.s "while", .t [.s "not", .t [.s "same", noneD, simpleD k z]], .t []], dp, r, 0⟩ = _
    rw [form2 (f1 := .test) (f2 := .block) rfl (by decide +kernel) (by decide +kernel) (by decide +kernel) (by decide +kernel) (by decide +kernel), ok_empty h, Bool.and_true, form1 (f1 := .test) rfl (by decide +kernel) (by decide +kernel) (by decide +kernel) (by decide +kernel) (by decide +kernel), form2 (f1 := .simple) (f2 := .simple) rfl (by decide +kernel) (by decide +kernel) (by decide +kernel) (by decide +kernel) (by decide +kernel), ok_none (by decide), Bool.true_and]
    exact ok_simple (by decide) k
  | w + 8 => by
    show okI P ⟨.statement, .t [.s "if", .t [.s "both", .t [.s "same", noneD, noneD], .t [.s "same", simpleD k z, noneD]], .t [], .t []], dp, r, 0⟩ = _
    rw [form3 (f1 := .test) (f2 := .block) (f3 := .block) rfl (by decide +kernel) (by decide +kernel) (by decide +kernel) (by decide +kernel) (by decide +kernel), ok_empty h, Bool.and_true, Bool.and_true, form2 (f1 := .test) (f2 := .test) rfl (by decide +kernel) (by decide +kernel) (by decide +kernel) (by decide +kernel) (by decide +kernel), form2 (f1 := .simple) (f2 := .simple) rfl (by decide +kernel) (by decide +kernel) (by decide +kernel) (by decide +kernel) (by decide +kernel),
      form2 (f1 := .simple) (f2 := .simple) rfl (by decide +kernel) (by decide +kernel) (by decide +kernel) (by decide +kernel) (by decide +kernel), ok_none (by decide), Bool.and_true, Bool.true_and, Bool.and_true]
    exact ok_simple (by decide) k
theorem ok_nest (h : dp < 8) {d : D} : ∀ w : Nat, okI P ⟨.statement, nestD (.t [.t [.s "do", noneD], d]) w, dp, r, 0⟩ = okI P ⟨.statement, d, dp + 1, decide (w < 2) || r, 0⟩ := by
  have hb : ∀ r' t', okI P ⟨.block, .t [.t [.s "do", noneD], d], dp, r', t'⟩ = okI P ⟨.statement, d, dp + 1, r', 0⟩ := fun r' t' => by
    rw [okI_block h (by show 2 ≤ 12; decide), all2, ok_doNone, Bool.true_and]
  have hf : ∀ r' t', okI P ⟨.function, .t [.t [.s "do", noneD], d], dp, r', t'⟩ = okI P ⟨.statement, d, dp + 1, true, 0⟩ := fun r' t' => by
    rw [okI_fun h (by show 2 ≤ 12; decide), all2, ok_doNone, Bool.true_and]
  intro w
  match w with
  | 0 =>
    show okI P ⟨.statement, .t [.s "do", .t [.s "fn", .t [.s "x"], _]], dp, r, 0⟩ = _
    rw [form1 (f1 := .right) rfl (by decide +kernel) (by decide +kernel) (by decide +kernel) (by decide +kernel) (by decide +kernel), form2 (f1 := .params) (f2 := .function) rfl (by decide +kernel) (by decide +kernel) (by decide +kernel) (by decide +kernel) (by decide +kernel), okI_params, pr_x, Bool.true_and]
    exact hf _ _
  | 1 =>
    show okI P ⟨.statement, .t [.s "let", .s "v", .t [.s "call", .t [.s "fn", .t [], _], .t []]], dp, r, 0⟩ = _
    rw [form2 (f1 := .name) (f2 := .right) rfl (by decide +kernel) (by decide +kernel) (by decide +kernel) (by decide +kernel) (by decide +kernel), okI_name, nm_v, Bool.true_and, form2 (f1 := .simple) (f2 := .things) rfl (by decide +kernel) (by decide +kernel) (by decide +kernel) (by decide +kernel) (by decide +kernel), ok_thingsE, Bool.and_true, form2 (f1 := .params) (f2 := .function) rfl (by decide +kernel) (by decide +kernel) (by decide +kernel) (by decide +kernel) (by decide +kernel), okI_params, pr_0, Bool.true_and]
    exact hf _ _
  | 2 =>
    show okI P ⟨.statement, .t [.s "if", testD, .t [], _], dp, r, 0⟩ = _
    rw [form3 (f1 := .test) (f2 := .block) (f3 := .block) rfl (by decide +kernel) (by decide +kernel) (by decide +kernel) (by decide +kernel) (by decide +kernel), ok_test, ok_empty h, Bool.true_and, Bool.true_and]
    exact hb _ _
  | 3 =>
    show okI P ⟨.statement, .t [.s "while", testD, _], dp, r, 0⟩ = _
    rw [form2 (f1 := .test) (f2 := .block) rfl (by decide +kernel) (by decide +kernel) (by decide +kernel) (by decide +kernel) (by decide +kernel), ok_test, Bool.true_and]
    exact hb _ _
  | 4 =>
    show okI P ⟨.statement, .t [.s "try", _, .s "e", .t []], dp, r, 0⟩ = _
    rw [form3 (f1 := .block) (f2 := .name) (f3 := .block) rfl (by decide +kernel) (by decide +kernel) (by decide +kernel) (by decide +kernel) (by decide +kernel), okI_name, nm_e, ok_empty h, Bool.and_true, Bool.and_true]
    exact hb _ _
  | 5 =>
    show okI P ⟨.statement, .t [.s "try", .t [], .s "e", _], dp, r, 0⟩ = _
    rw [form3 (f1 := .block) (f2 := .name) (f3 := .block) rfl (by decide +kernel) (by decide +kernel) (by decide +kernel) (by decide +kernel) (by decide +kernel), okI_name, nm_e, ok_empty h, Bool.true_and, Bool.true_and]
    exact hb _ _
  | w + 6 =>
    show okI P ⟨.statement, .t [.s "last", .t [], _], dp, r, 0⟩ = _
    rw [form2 (f1 := .block) (f2 := .block) rfl (by decide +kernel) (by decide +kernel) (by decide +kernel) (by decide +kernel) (by decide +kernel), ok_empty h, Bool.true_and, hb, decide_eq_false (by omega), Bool.false_or]
end
end SF
namespace SF
open PySem PySem.Spec PyProof.Rows L2 G0
structure BoxOk (c : Cl) : Prop where
  par : c.par = none ∨ c.par = some ("top" : Str)
  mark : markB c.mark = true
  mths : c.mths = []
  flds : ∃ bs : List Str, bs.Sublist ["h", "f", "g"] ∧ c.flds = bs.map fun z => ((z, D.t [.s "a", .s "b"]) : Str × D)
def fitsB (c : Cl) (im : Bool) : Nat → Str → Bool
  | 0, _ => im
  | 1, z => im && hasKey c.flds z
  | _, z => !decide (z = ("gone" : Str))
structure LP (P : Pl) (c : Cl) (im : Bool) : Prop where
  pim : P.im = im
  hp : P.hp = (im && c.par.isSome)
  fld : ∀ z, P.fld z = (im && hasKey c.flds z)
  cls : ∀ z, P.cls z = (decide (z = ("top" : Str)) || (decide (z = ("box" : Str)) || decide (z = ("other" : Str))))
def six : List Str := ["f", "g", "h", "t", "o", "x"]
def four : List Str := ["box", "top", "other", "gone"]
theorem fits_simple {P : Pl} {c : Cl} {im : Bool} (h : LP P c im) : ∀ (k : Nat) (z : Str), k < 3 → (k = 1 → z ∈ six) → (k = 2 → z ∈ four) → simpleB P k z = fitsB c im k z
  | 0, z, _, _, _ => h.pim
  | 1, z, _, h1, _ => by
    show (nameS z && P.fld z) = (im && hasKey c.flds z)
    have : nameS z = true := (show ∀ z ∈ six, nameS z = true by decide +kernel) z (h1 rfl)
    rw [this, Bool.true_and, h.fld]
  | 2, z, _, _, h2 => by
    show (nameS z && P.cls z) = !decide (z = ("gone" : Str))
    have := (show ∀ z ∈ four, (nameS z && (decide (z = ("top" : Str)) || (decide (z = ("box" : Str)) || decide (z = ("other" : Str))))) = !decide (z = ("gone" : Str)) by decide +kernel) z (h2 rfl)
    rw [h.cls]
    exact this
  | k + 3, _, h, _, _ => absurd h (by omega)
def CaseOk (c : Cl) (im inf : Bool) (d : D) (fits : Bool) : Prop := ∀ P, LP P c im → ∀ (dp : Nat) (r : Bool), dp < 8 → r = (im || inf) → okI P ⟨.statement, d, dp, r, 0⟩ = fits
def PlacedOk (c : Cl) (im : Bool) (d : D) (fits : Bool) : Prop := ∀ P, LP P c im → okB P d = fits
def spBox (K : PySem.W.Frag) : Sp := fun vs H Q _ => ∃ st, vs = [.ref st] ∧ DSt H st ∧ ∀ (c : Cl) (v : V) (fa ma : Addr) (H' : Hp), BoxOk c → Btw st H H' → DSt H' st → CRep K H' c v fa ma → fa ≠ ma → Q v H'
def spSimple (K : PySem.W.Frag) : Sp := fun vs H Q _ => ∃ (st : Addr) (k : Nat), vs = [.ref st, .int k] ∧ k < 3 ∧ DSt H st ∧ ∀ (z : Str) (v : V) (H' : Hp), (k = 1 → z ∈ six) → (k = 2 → z ∈ four) → Btw st H H' → DSt H' st → Rep K H' (simpleD k z) v → Q v H'
def spFits (K : PySem.W.Frag) : Sp := fun vs H Q _ => ∃ (k : Nat) (z : Str) (c : Cl) (v vb : V) (fa ma : Addr) (im : Bool), vs = [v, vb, .bl im] ∧ k < 3 ∧ Rep K H (simpleD k z) v ∧ CRep K H c vb fa ma ∧ Q (.bl (fitsB c im k z)) H
def spWith (K : PySem.W.Frag) : Sp := fun vs H Q _ => ∃ (st : Addr) (d : D) (v : V), vs = [.ref st, v] ∧ DSt H st ∧ noO d = true ∧ Rep K H d v ∧ ∀ (w : Nat) (v' : V) (H' : Hp), w < 9 → Btw st H H' → DSt H' st → Rep K H' (withD d w) v' → Q v' H'
def spNest (K : PySem.W.Frag) : Sp := fun vs H Q _ => ∃ (b : D) (v : V) (w : Nat), vs = [v, .int w] ∧ w < 7 ∧ Rep K H b v ∧ ∀ (v' : V) (H' : Hp), Same H H' → Rep K H' (nestD b w) v' → Q v' H'
def spCase (K : PySem.W.Frag) : Sp := fun vs H Q _ => ∃ (st : Addr) (c : Cl) (vb : V) (fa ma : Addr) (im inf : Bool), vs = [.ref st, vb, .bl im, .bl inf] ∧ DSt H st ∧ BoxOk c ∧ CRep K H c vb fa ma ∧
  ∀ (d : D) (fits : Bool) (p : Addr) (v : V) (H' : Hp), CaseOk c im inf d fits → noO d = true → sz d ≤ 60 → Btw st H H' → DSt H' st → H' p = some (.tup [v, .bl fits]) → Rep K H' d v → Q (.ref p) H'
def spPlaced (K : PySem.W.Frag) : Sp := fun vs H Q _ => ∃ (st : Addr) (c : Cl) (vb : V) (fa ma : Addr) (im : Bool), vs = [.ref st, vb, .bl im] ∧ DSt H st ∧ BoxOk c ∧ CRep K H c vb fa ma ∧
  ∀ (d : D) (fits : Bool) (p : Addr) (v : V) (H' : Hp), PlacedOk c im d fits → noO d = true → sz d ≤ 1000 → Btw st H H' → DSt H' st → H' p = some (.tup [v, .bl fits]) → Rep K H' d v → Q (.ref p) H'
theorem DRep.btw {K : PySem.W.Frag} {H H' : Hp} {st : Addr} {ys : List V} {kds : List (Str × D)} {kvs : List (Key × V)} (h : DRep K H kds kvs) (hs : H st = some (.lst ys)) (e : Btw st H H') (n : noOs (kds.map (·.2)) = true) : DRep K H' kds kvs :=
  ⟨h.keys, Reps.btw hs e n h.vals, h.small, h.few, h.nodup⟩
theorem BoxOk.noO {c : Cl} (h : BoxOk c) : noOs (c.flds.map (·.2)) = true := by
  obtain ⟨bs, hsub, e⟩ := h.flds
  rw [e, List.map_map]
  clear e hsub
  induction bs with
  | nil => rfl
  | cons b bs ih =>
    show (SF.noO (D.t [.s "a", .s "b"]) && noOs _) = true
    rw [ih]
    rfl
theorem sqT_but {K : PySem.W.Frag} {H H' : Hp} {st t : Addr} {xs : List V} (hn : ∀ xs, H st ≠ some (.tup xs)) (hf : ∀ o xs, H st ≠ some (.frz o (.tup xs))) (e : Btw st H H') (h : SqT K H t xs) : SqT K H' t xs := by
  rcases h with (h | ⟨o', h⟩) | h
  · exact .inl (.inl (e _ _ (fun z => hn xs (by rw [← z]; exact h)) h))
  · exact .inl (.inr ⟨o', e _ _ (fun z => hf o' xs (by rw [← z]; exact h)) h⟩)
  · exact .inr h
section
variable {K : PySem.W.Frag} {H H' : Hp} {st : Addr}
mutual
theorem Rep.but (hn : ∀ xs, H st ≠ some (.tup xs)) (hf : ∀ o xs, H st ≠ some (.frz o (.tup xs))) (e : Btw st H H') : ∀ {d : D} {v : V}, noO d = true → Rep K H d v → Rep K H' d v
  | .s x, v, _, h => by
    unfold Rep at h ⊢
    exact h
  | .t ds, v, n, h => by
    unfold Rep at h ⊢
    obtain ⟨p, vs, e1, e2, e3⟩ := h
    unfold noO at n
    exact ⟨p, vs, e1, sqT_but hn hf e e2, Reps.but hn hf e n e3⟩
  | .o, v, n, h => by
    unfold noO at n
    cases n
theorem Reps.but (hn : ∀ xs, H st ≠ some (.tup xs)) (hf : ∀ o xs, H st ≠ some (.frz o (.tup xs))) (e : Btw st H H') : ∀ {ds : List D} {vs : List V}, noOs ds = true → Reps K H ds vs → Reps K H' ds vs
  | [], vs, _, h => by
    unfold Reps at h ⊢
    exact h
  | d :: ds, vs, n, h => by
    unfold Reps at h ⊢
    unfold noOs at n
    rw [Bool.and_eq_true] at n
    obtain ⟨v, r, e1, e2, e3⟩ := h
    exact ⟨v, r, e1, Rep.but hn hf e n.1 e2, Reps.but hn hf e n.2 e3⟩
end
theorem Reps.snoc : ∀ {ds : List D} {vs : List V} {d : D} {v : V}, Reps K H ds vs → Rep K H d v → Reps K H (ds ++ [d]) (vs ++ [v])
  | [], vs, d, v, h, r => by
    rw [reps_nil.mp h]
    exact reps_cons.mpr ⟨v, [], rfl, r, reps_nil.mpr rfl⟩
  | a :: ds, vs, d, v, h, r => by
    obtain ⟨u, rr, rfl, h1, h2⟩ := reps_cons.mp h
    exact reps_cons.mpr ⟨u, rr ++ [v], rfl, h1, Reps.snoc h2 r⟩
theorem DRep.nil : DRep K H [] [] := ⟨rfl, reps_nil.mpr rfl, fun _ h => (nomatch h), Nat.zero_le _, .nil⟩
theorem DRep.snoc {kds : List (Str × D)} {kvs : List (Key × V)} {z : Str} {d : D} {v : V} (h : DRep K H kds kvs) (r : Rep K H d v) (hz : z.length ≤ 1000) (hn : z ∉ kds.map (·.1)) (hl : kds.length < 63) : DRep K H (kds ++ [(z, d)]) (kvs ++ [(Sum.inr z, v)]) := by
  refine ⟨by rw [List.map_append, List.map_append, h.keys]; rfl, by rw [List.map_append, List.map_append]; exact h.vals.snoc r, fun q hq => ?_, by rw [List.length_append]; show _ + 1 ≤ 63; omega, ?_⟩
  · rcases List.mem_append.mp hq with hq | hq
    · exact h.small q hq
    · rw [List.mem_singleton.mp hq]
      exact hz
  · rw [List.map_append, List.nodup_append]
    refine ⟨h.nodup, by simp, fun a ha b hb e => ?_⟩
    have : b = z := by simpa using hb
    rw [e, this] at ha
    exact hn ha
theorem DRep.put {kds : List (Str × D)} {kvs ks : List (Key × V)} {o : HO} (h : DRep K H kds kvs) (hs : H st = some (.dK ks)) (n : noOs (kds.map (·.2)) = true) : DRep K (upd H st o) kds kvs :=
  ⟨h.keys, Reps.but (fun xs e => by rw [hs] at e; cases e) (fun o xs e => by rw [hs] at e; cases e) (fun b u hb hu => by rw [upd_ne hb]; exact hu) n h.vals, h.small, h.few, h.nodup⟩
theorem none_btw {H H1 : Hp} {L : Addr} {xs : List V} (b : Btw st H H1) (h : H1 st = some (.lst xs)) (n : H1 L = none) : H L = none := by
  cases e : H L with
  | none => rfl
  | some u => exact absurd (b L u (fun z => by rw [z, h] at n; cases n) e) (by rw [n]; intro z; cases z)
end
def fw (z : Str) : Str × D := (z, .t [.s "a", .s "b"])
theorem noO_fw : ∀ bs : List Str, noOs ((bs.map fw).map (·.2)) = true
  | [] => rfl
  | b :: bs => by
    show (SF.noO (D.t [.s "a", .s "b"]) && noOs _) = true
    rw [show noOs (((bs.map fw)).map (·.2)) = true from noO_fw bs]
    rfl
theorem CRep.btw {K : PySem.W.Frag} {H H' : Hp} {st : Addr} {ys : List V} {c : Cl} {v : V} {fa ma : Addr} (h : CRep K H c v fa ma) (o : BoxOk c) (hs : H st = some (.lst ys)) (e : Btw st H H') : CRep K H' c v fa ma := by
  obtain ⟨p, fk, mk, e1, e2, e3, e4, e5, e6, e7⟩ := h
  exact ⟨p, fk, mk, e1, sqT_btw hs e e2, e _ _ (fun z => by rw [z, hs] at e3; cases e3) e3, e4.btw hs e o.noO, e _ _ (fun z => by rw [z, hs] at e5; cases e5) e5, e6.btw hs e (by rw [o.mths]; rfl), e7⟩
section
variable {P : Pl} {dp t : Nat} {r : Bool} {z : Str}
theorem ok_keep (hz : nameS z = true) : okI P ⟨.statement, .t [.s "keep", .s z, wD "a"], dp, r, 0⟩ = P.fld z := by
  rw [form2 (f1 := .field) (f2 := .right) rfl (by decide +kernel) (by decide +kernel) (by decide +kernel) (by decide +kernel) (by decide +kernel), okI_field, show nameD (.s z) = true from hz, ok_wordR (by decide) nm_a, Bool.true_and, Bool.and_true]
  rfl
theorem all_rep {α : Type} {f : α → Bool} {a : α} (h : f a = true) : ∀ n : Nat, (List.replicate n a).all f = true
  | 0 => rfl
  | n + 1 => by rw [List.replicate_succ, List.all_cons, h, all_rep h n]; rfl
theorem ok_parent {n : Nat} (hn : n ≤ 3) : okI P ⟨.statement, .t [.s "let", .s "v", .t [.s "parent", .s "go", .t (List.replicate n noneD)]], dp, r, 0⟩ = P.hp := by
  rw [form2 (f1 := .name) (f2 := .right) rfl (by decide +kernel) (by decide +kernel) (by decide +kernel) (by decide +kernel) (by decide +kernel), okI_name, nm_v, Bool.true_and, okI_form (k := .right) (fs := [.name, .things]) rfl (by decide +kernel) rfl (by decide)]
  have e1 : mayS P ("parent" : Str) r = P.hp := by
    unfold mayS
    rw [if_neg (by decide +kernel), if_pos rfl]
  rw [e1]
  show (P.hp && [(Kd.name, D.s "go"), (Kd.things, D.t (List.replicate n noneD))].all _) = _
  rw [all2, okI_name, nm_go, okI_things (by rw [List.length_replicate]; exact hn), all_rep (f := fun d => okI P ⟨.simple, d, dp, r, testsN .right (testsN .statement 0)⟩) (ok_none (by decide)), Bool.true_and, Bool.and_true]
theorem ok_return : okI P ⟨.statement, .t [.s "return", noneD], dp, r, 0⟩ = r := by
  rw [okI_form (fs := [.right]) rfl (by decide +kernel) rfl (by decide)]
  have e1 : mayS P ("return" : Str) r = r := by
    unfold mayS
    rw [if_neg (by decide +kernel), if_neg (by decide +kernel), if_pos rfl]
  rw [e1]
  show (r && [(Kd.right, noneD)].all _) = _
  rw [all1, ok_noneR (by decide), Bool.and_true]
end
theorem noO_simple (k : Nat) (z : Str) : noO (simpleD k z) = true := by
  match k with
  | 0 => rfl
  | 1 => rfl
  | k + 2 => rfl
theorem noO_with {d : D} (h : noO d = true) : ∀ w, noO (withD d w) = true := by
  intro w
  match w with
  | 0 | 1 | 2 | 3 | 4 | 5 | 6 | 7 => simp [withD, noO, noOs, noneD, h]
  | w + 8 => simp [withD, noO, noOs, noneD, h]
theorem noO_nest {d : D} (h : noO d = true) : ∀ w, noO (nestD d w) = true := by
  intro w
  match w with
  | 0 | 1 | 2 | 3 | 4 | 5 => simp [nestD, noO, noOs, testD, wD, h]
  | w + 6 => simp [nestD, noO, noOs, testD, wD, h]
theorem sz_simple (k : Nat) (z : Str) : sz (simpleD k z) ≤ 3 := by
  match k with
  | 0 => exact (by decide : 2 ≤ 3)
  | 1 => exact Nat.le_refl _
  | k + 2 => exact Nat.le_refl _
theorem sz_with (d : D) (w : Nat) : sz (withD d w) ≤ sz d + 20 := by
  match w with
  | 0 | 1 | 2 | 3 | 4 | 5 | 6 | 7 => simp [withD, sz, szs, noneD]; omega
  | w + 8 => simp [withD, sz, szs, noneD]; omega
theorem sz_nest (d : D) (w : Nat) : sz (nestD d w) ≤ sz d + 20 := by
  match w with
  | 0 | 1 | 2 | 3 | 4 | 5 => simp [nestD, sz, szs, testD, wD]; omega
  | w + 6 => simp [nestD, sz, szs, testD, wD]; omega
end SF

set_option Elab.async false
set_option linter.all false
set_option maxRecDepth 100000
set_option maxHeartbeats 4000000
namespace RD
open PySem PySem.Spec PyProof.Rows L2 G0
theorem dput {td ty tv : TE} {σ : L2.St} {H : Hp} {nx : L2.St → Hp → Prop} {rt : VK} {bk ct : L2.St → Hp → Prop} (h : tv σ H fun v H1 => td σ H1 fun x H2 => ty σ H2 fun y H3 => ∃ a H4, x = .ref a ∧ DPut H3 a y v H4 ∧ nx σ H4) : sDPut td ty tv ⟨nx, rt, bk, ct⟩ σ H := h
end RD
namespace SF
open PySem PySem.Spec PyProof.Rows L2 G0
open C8 (Cal Mak Met pe_c pe_mk pe_mt pe_mt0 pe_gc)
def hfg : List Str := ["h", "f", "g"]
theorem hfg_new {i : Nat} {z : Str} (h : hfg[i]? = some z) : z ∉ hfg.take i := by
  match i, h with
  | 0, _ => exact List.not_mem_nil
  | 1, h =>
    cases h
    decide +kernel
  | 2, h =>
    cases h
    decide +kernel
/-- written data -/
local macro_rules | `(tactic| walk_at "de") => `(tactic| repeat (first | with_reducible exact DA.nil | with_reducible exact DE.str (by decide +kernel) | with_reducible refine DE.tup ?_ (Nat.le_of_ble_eq_true rfl) | with_reducible refine DA.cons ?_ ?_ | ((with_reducible apply DE.var); (focus exact rfl); assumption)))
section
variable {P : Program} {w : World} {K : PySem.W.Frag} {mg : Str → Option Value} {base : Heap}
local macro_rules | `(tactic| walk_at "rd1") => `(tactic| first
  | (with_reducible refine RD.seq ?_) | (with_reducible refine RD.next ?_) | (with_reducible refine RD.ifS ?_) | (with_reducible refine RD.ret ?_) | (with_reducible refine RD.retN ?_) | (with_reducible refine RD.drop ?_) | (with_reducible refine RD.asg ?_) | (with_reducible refine RD.gname ?_)
  | ((with_reducible apply RD.var); exact rfl) | (with_reducible refine RD.c_ ?_) | (with_reducible refine RD.op ?_) | (with_reducible refine RD.un ?_) | (with_reducible refine RD.cb ?_) | (with_reducible refine RD.cons ?_) | (with_reducible refine RD.nil ?_) | (with_reducible refine RD.tup ?_) | (with_reducible refine RD.lst ?_)
  | (with_reducible refine RD.B_ ?_) | (with_reducible refine RD.test ?_) | (with_reducible refine RD.exB ?_) | (with_reducible refine RD.exI ?_) | (with_reducible refine RD.and_ ?_) | (with_reducible refine RD.or_ ?_) | (with_reducible refine RD.not_ ?_) | (with_reducible refine RD.andV ?_) | (with_reducible refine RD.orV ?_) | (with_reducible refine RD.notV ?_) | (with_reducible refine RD.if_ ?_)
  | (with_reducible refine RD.ifT ?_) | (with_reducible refine RD.ifF ?_) | (with_reducible refine RD.ifNT ?_) | (with_reducible refine RD.ifNF ?_) | (with_reducible refine RD.yes ?_) | (with_reducible refine RD.sl ?_) | (with_reducible refine RD.noPart ?_) | (with_reducible refine RD.part ?_) | (with_reducible refine RD.i0 ?_) | (with_reducible refine RD.eqS ?_) | (with_reducible refine RD.eqI ?_) | (with_reducible refine RD.neS ?_) | (with_reducible refine RD.neI ?_)
  | (with_reducible refine RD.isN_n ?_) | (with_reducible refine RD.isN_r ?_) | (with_reducible refine RD.isN_s ?_) | (with_reducible refine RD.isN_b ?_) | (with_reducible refine RD.isN_i ?_) | (with_reducible refine RD.notN_n ?_) | (with_reducible refine RD.notN_r ?_) | (with_reducible refine RD.notN_s ?_)
  | (with_reducible refine RD.call ?_) | (with_reducible refine RD.make ?_) | (with_reducible refine RD.gcons ?_) | (with_reducible refine RD.gnil ?_) | (with_reducible refine RD.bm ?_) | (with_reducible refine RD.bm0 ?_) | (with_reducible refine RD.dget ?_) | (with_reducible refine RD.din ?_) | (with_reducible refine RD.tfld ?_) | (with_reducible refine RD.then_ ?_) | (with_reducible refine RD.chain ?_) | (with_reducible refine RD.itup ?_) | (with_reducible refine RD.ikeys ?_) | (with_reducible refine RD.ivals ?_) | (with_reducible refine RD.iitems ?_) | (with_reducible refine RD.lset ?_) | (with_reducible refine RD.ilist ?_) | ((with_reducible apply RD.aug); exact rfl))
local macro_rules | `(tactic| walk_at "rd") => `(tactic| repeat walk_at "rd1")

theorem sc__law_nest : FnScope ["_law_block", "_law_way", "_law_test"] ["_law_block", "_law_way"] (defScope (topS 58)) := ⟨rfl, rfl, rfl, by decide +kernel, rfl, by decide +kernel, by decide +kernel⟩
theorem ok_lnest (T : TxtL K mg) {f : Addr} {fd : FuncData} (F : Fun K "_law_nest" "_law_nest" (topS 58) f fd) : FnOk P w K mg base CX0 1 f fd ["_law_block", "_law_way"] (spNest K) := by
  refine F.ok sc__law_nest (fun vs H Q E h => ?_) (fun cdv A outer s H vs Q E hr h => ?_)
  · obtain ⟨b, v, w, rfl, _⟩ := h
    rfl
  obtain ⟨b, v, w, rfl, hw, hR, q⟩ := h
  refine ⟨_, (pss_cons (ps_set (i := 2) sc__law_nest.nd rfl (Or.inl rfl) (pe_tup (pa_cons pe_str (pa_cons (pe_tup (pa_cons pe_str (pa_cons pe_str pa_nil))) (pa_cons (pe_tup (pa_cons pe_str (pa_cons pe_str pa_nil))) pa_nil)))))
      (pss_cons (ps_if (pt_cmpR op_eq (pv 1) pe_int (nomark _)) (pss_one (ps_ret (pe_tup (pa_cons pe_str (pa_cons (pe_tup (pa_cons pe_str (pa_cons (pe_tup (pa_cons pe_str pa_nil)) (pa_cons (pv 0) pa_nil)))) pa_nil))))) pss_nil)
      (pss_cons (ps_if (pt_cmpR op_eq (pv 1) pe_int (nomark _)) (pss_one (ps_ret (pe_tup (pa_cons pe_str (pa_cons pe_str (pa_cons (pe_tup (pa_cons pe_str (pa_cons (pe_tup (pa_cons pe_str (pa_cons (pe_tup pa_nil) (pa_cons (pv 0) pa_nil)))) (pa_cons (pe_tup pa_nil) pa_nil)))) pa_nil)))))) pss_nil)
      (pss_cons (ps_if (pt_cmpR op_eq (pv 1) pe_int (nomark _)) (pss_one (ps_ret (pe_tup (pa_cons pe_str (pa_cons (pv 2) (pa_cons (pe_tup pa_nil) (pa_cons (pv 0) pa_nil))))))) pss_nil)
      (pss_cons (ps_if (pt_cmpR op_eq (pv 1) pe_int (nomark _)) (pss_one (ps_ret (pe_tup (pa_cons pe_str (pa_cons (pv 2) (pa_cons (pv 0) pa_nil)))))) pss_nil)
      (pss_cons (ps_if (pt_cmpR op_eq (pv 1) pe_int (nomark _)) (pss_one (ps_ret (pe_tup (pa_cons pe_str (pa_cons (pv 0) (pa_cons pe_str (pa_cons (pe_tup pa_nil) pa_nil))))))) pss_nil)
      (pss_cons (ps_if (pt_cmpR op_eq (pv 1) pe_int (nomark _)) (pss_one (ps_ret (pe_tup (pa_cons pe_str (pa_cons (pe_tup pa_nil) (pa_cons pe_str (pa_cons (pv 0) pa_nil))))))) pss_nil)
      (pss_one (ps_ret (pe_tup (pa_cons pe_str (pa_cons (pe_tup pa_nil) (pa_cons (pv 0) pa_nil))))))))))))), ?_⟩
  with_reducible refine RD.seq ?_
  with_reducible refine RD.asg ?_
  refine DE.go (K := K) (d := testD) (by unfold testD wD; walk_at "de") fun H1 vt s1 rt => ?_
  have hR1 := hR.same s1
  have ret : ∀ {te : TE} {σ' : L2.St}, DE K te σ' H1 (nestD b w) → te σ' H1 Q := fun h => DE.go h fun H2 v2 s2 r2 => q v2 H2 (s1.trans s2) r2
  have hw2 : w = 0 ∨ w = 1 ∨ w = 2 ∨ w = 3 ∨ w = 4 ∨ w = 5 ∨ w = 6 := by omega
  rcases hw2 with rfl | rfl | rfl | rfl | rfl | rfl | rfl
  · walk_at "rd"
    refine RD.ifT ?_
    with_reducible refine RD.ret ?_
    refine ret ?_
    rw [show nestD b 0 = .t [.s "do", .t [.s "fn", .t [.s "x"], b]] from rfl]
    walk_at "de"
  · walk_at "rd"
    refine RD.ifF ?_
    walk_at "rd"
    refine RD.ifT ?_
    with_reducible refine RD.ret ?_
    refine ret ?_
    rw [show nestD b 1 = .t [.s "let", .s "v", .t [.s "call", .t [.s "fn", .t [], b], .t []]] from rfl]
    walk_at "de"
  · walk_at "rd"
    refine RD.ifF ?_
    walk_at "rd"
    refine RD.ifF ?_
    walk_at "rd"
    refine RD.ifT ?_
    with_reducible refine RD.ret ?_
    refine ret ?_
    rw [show nestD b 2 = .t [.s "if", testD, .t [], b] from rfl]
    walk_at "de"
  · walk_at "rd"
    refine RD.ifF ?_
    walk_at "rd"
    refine RD.ifF ?_
    walk_at "rd"
    refine RD.ifF ?_
    walk_at "rd"
    refine RD.ifT ?_
    with_reducible refine RD.ret ?_
    refine ret ?_
    rw [show nestD b 3 = .t [.s "while", testD, b] from rfl]
    walk_at "de"
  · walk_at "rd"
    refine RD.ifF ?_
    walk_at "rd"
    refine RD.ifF ?_
    walk_at "rd"
    refine RD.ifF ?_
    walk_at "rd"
    refine RD.ifF ?_
    walk_at "rd"
    refine RD.ifT ?_
    with_reducible refine RD.ret ?_
    refine ret ?_
    rw [show nestD b 4 = .t [.s "try", b, .s "e", .t []] from rfl]
    walk_at "de"
  · walk_at "rd"
    refine RD.ifF ?_
    walk_at "rd"
    refine RD.ifF ?_
    walk_at "rd"
    refine RD.ifF ?_
    walk_at "rd"
    refine RD.ifF ?_
    walk_at "rd"
    refine RD.ifF ?_
    walk_at "rd"
    refine RD.ifT ?_
    with_reducible refine RD.ret ?_
    refine ret ?_
    rw [show nestD b 5 = .t [.s "try", .t [], .s "e", b] from rfl]
    walk_at "de"
  · walk_at "rd"
    refine RD.ifF ?_
    walk_at "rd"
    refine RD.ifF ?_
    walk_at "rd"
    refine RD.ifF ?_
    walk_at "rd"
    refine RD.ifF ?_
    walk_at "rd"
    refine RD.ifF ?_
    walk_at "rd"
    refine RD.ifF ?_
    with_reducible refine RD.next ?_
    with_reducible refine RD.ret ?_
    refine ret ?_
    rw [show nestD b 6 = .t [.s "last", .t [], b] from rfl]
    walk_at "de"
theorem sc__law_with : FnScope ["_law_state", "_law_one", "_law_way"] ["_law_state", "_law_one"] (defScope (topS 56)) := ⟨rfl, rfl, rfl, by decide +kernel, rfl, by decide +kernel, by decide +kernel⟩
theorem ok_lwith (T : TxtL K mg) (c__law_draw : Cal P w K mg base 2 "_law_draw" spDraw []) {f : Addr} {fd : FuncData} (F : Fun K "_law_with" "_law_with" (topS 56) f fd) : FnOk P w K mg base CX0 3 f fd ["_law_state", "_law_one"] (spWith K) := by
  refine F.ok sc__law_with (fun vs H Q E h => ?_) (fun cdv A outer s H vs Q E hr h => ?_)
  · obtain ⟨st, d, v, rfl, _⟩ := h
    rfl
  obtain ⟨st, d, v, rfl, hst, hno, hR, q⟩ := h
  refine ⟨_, (pss_cons (ps_set (i := 2) sc__law_with.nd rfl (Or.inl rfl) (pe_c c__law_draw hr (by decide) (by rfl) (pa_cons (pv 0) (pa_cons pe_int pa_nil))))
      (pss_cons (ps_if (pt_cmpR op_eq (pv 2) pe_int (nomark _)) (pss_one (ps_ret (pe_tup (pa_cons pe_str (pa_cons pe_str (pa_cons (pv 1) pa_nil)))))) pss_nil)
      (pss_cons (ps_if (pt_cmpR op_eq (pv 2) pe_int (nomark _)) (pss_one (ps_ret (pe_tup (pa_cons pe_str (pa_cons (pv 1) pa_nil))))) pss_nil)
      (pss_cons (ps_if (pt_cmpR op_eq (pv 2) pe_int (nomark _)) (pss_one (ps_ret (pe_tup (pa_cons pe_str (pa_cons (pv 1) pa_nil))))) pss_nil)
      (pss_cons (ps_if (pt_cmpR op_eq (pv 2) pe_int (nomark _)) (pss_one (ps_ret (pe_tup (pa_cons pe_str (pa_cons (pe_tup (pa_cons pe_str (pa_cons (pv 1) (pa_cons (pe_tup pa_nil) pa_nil)))) pa_nil))))) pss_nil)
      (pss_cons (ps_if (pt_cmpR op_eq (pv 2) pe_int (nomark _)) (pss_one (ps_ret (pe_tup (pa_cons pe_str (pa_cons (pe_tup (pa_cons pe_str (pa_cons (pv 1) (pa_cons pe_str (pa_cons (pe_tup pa_nil) pa_nil))))) pa_nil))))) pss_nil)
      (pss_cons (ps_if (pt_cmpR op_eq (pv 2) pe_int (nomark _)) (pss_one (ps_ret (pe_tup (pa_cons pe_str (pa_cons pe_str (pa_cons (pe_tup (pa_cons pe_str (pa_cons (pe_tup (pa_cons pe_str (pa_cons pe_str pa_nil))) (pa_cons (pe_tup (pa_cons (pe_tup (pa_cons pe_str pa_nil)) (pa_cons (pv 1) pa_nil))) pa_nil)))) pa_nil)))))) pss_nil)
      (pss_cons (ps_if (pt_cmpR op_eq (pv 2) pe_int (nomark _)) (pss_one (ps_ret (pe_tup (pa_cons pe_str (pa_cons (pe_tup (pa_cons pe_str (pa_cons (pe_tup (pa_cons pe_str (pa_cons pe_str pa_nil))) (pa_cons pe_str (pa_cons (pe_tup (pa_cons (pv 1) pa_nil)) pa_nil))))) pa_nil))))) pss_nil)
      (pss_cons (ps_if (pt_cmpR op_eq (pv 2) pe_int (nomark _)) (pss_one (ps_ret (pe_tup (pa_cons pe_str (pa_cons (pe_tup (pa_cons pe_str (pa_cons (pe_tup (pa_cons pe_str (pa_cons (pe_tup (pa_cons pe_str pa_nil)) (pa_cons (pv 1) pa_nil)))) pa_nil))) (pa_cons (pe_tup pa_nil) pa_nil)))))) pss_nil)
      (pss_one (ps_ret (pe_tup (pa_cons pe_str (pa_cons (pe_tup (pa_cons pe_str (pa_cons (pe_tup (pa_cons pe_str (pa_cons (pe_tup (pa_cons pe_str pa_nil)) (pa_cons (pe_tup (pa_cons pe_str pa_nil)) pa_nil)))) (pa_cons (pe_tup (pa_cons pe_str (pa_cons (pv 1) (pa_cons (pe_tup (pa_cons pe_str pa_nil)) pa_nil)))) pa_nil)))) (pa_cons (pe_tup pa_nil) (pa_cons (pe_tup pa_nil) pa_nil)))))))))))))))), ?_⟩
  walk_at "rd"
  refine ⟨st, 9, rfl, hst, by decide, by decide, fun w H1 hw b1 hst1 _ => ?_⟩
  walk_at "rd"
  obtain ⟨xs, hl⟩ := hst.lst
  have hR1 : Rep K H1 d v := Rep.btw hl b1 hno hR
  have ret : ∀ {te : TE} {σ' : L2.St}, DE K te σ' H1 (withD d w) → te σ' H1 Q := fun h => DE.go h fun H2 v2 s2 r2 => q w v2 H2 hw (b1.trans (.of s2)) (hst1.same s2) r2
  have hw2 : w = 0 ∨ w = 1 ∨ w = 2 ∨ w = 3 ∨ w = 4 ∨ w = 5 ∨ w = 6 ∨ w = 7 ∨ w = 8 := by omega
  rcases hw2 with rfl | rfl | rfl | rfl | rfl | rfl | rfl | rfl | rfl
  · walk_at "rd"
    refine RD.ifT ?_
    with_reducible refine RD.ret ?_
    refine ret ?_
    rw [show withD d 0 = .t [.s "let", .s "v", d] from rfl]
    walk_at "de"
  · walk_at "rd"
    refine RD.ifF ?_
    walk_at "rd"
    refine RD.ifT ?_
    with_reducible refine RD.ret ?_
    refine ret ?_
    rw [show withD d 1 = .t [.s "raise", d] from rfl]
    walk_at "de"
  · walk_at "rd"
    refine RD.ifF ?_
    walk_at "rd"
    refine RD.ifF ?_
    walk_at "rd"
    refine RD.ifT ?_
    with_reducible refine RD.ret ?_
    refine ret ?_
    rw [show withD d 2 = .t [.s "print", d] from rfl]
    walk_at "de"
  · walk_at "rd"
    refine RD.ifF ?_
    walk_at "rd"
    refine RD.ifF ?_
    walk_at "rd"
    refine RD.ifF ?_
    walk_at "rd"
    refine RD.ifT ?_
    with_reducible refine RD.ret ?_
    refine ret ?_
    rw [show withD d 3 = .t [.s "do", .t [.s "call", d, .t []]] from rfl]
    walk_at "de"
  · walk_at "rd"
    refine RD.ifF ?_
    walk_at "rd"
    refine RD.ifF ?_
    walk_at "rd"
    refine RD.ifF ?_
    walk_at "rd"
    refine RD.ifF ?_
    walk_at "rd"
    refine RD.ifT ?_
    with_reducible refine RD.ret ?_
    refine ret ?_
    rw [show withD d 4 = .t [.s "do", .t [.s "ask", d, .s "go", .t []]] from rfl]
    walk_at "de"
  · walk_at "rd"
    refine RD.ifF ?_
    walk_at "rd"
    refine RD.ifF ?_
    walk_at "rd"
    refine RD.ifF ?_
    walk_at "rd"
    refine RD.ifF ?_
    walk_at "rd"
    refine RD.ifF ?_
    walk_at "rd"
    refine RD.ifT ?_
    with_reducible refine RD.ret ?_
    refine ret ?_
    rw [show withD d 5 = .t [.s "set", .s "v", .t [.s "call", .t [.s "name", .s "v"], .t [.t [.s "none"], d]]] from rfl]
    walk_at "de"
  · walk_at "rd"
    refine RD.ifF ?_
    walk_at "rd"
    refine RD.ifF ?_
    walk_at "rd"
    refine RD.ifF ?_
    walk_at "rd"
    refine RD.ifF ?_
    walk_at "rd"
    refine RD.ifF ?_
    walk_at "rd"
    refine RD.ifF ?_
    walk_at "rd"
    refine RD.ifT ?_
    with_reducible refine RD.ret ?_
    refine ret ?_
    rw [show withD d 6 = .t [.s "do", .t [.s "ask", .t [.s "name", .s "v"], .s "go", .t [d]]] from rfl]
    walk_at "de"
  · walk_at "rd"
    refine RD.ifF ?_
    walk_at "rd"
    refine RD.ifF ?_
    walk_at "rd"
    refine RD.ifF ?_
    walk_at "rd"
    refine RD.ifF ?_
    walk_at "rd"
    refine RD.ifF ?_
    walk_at "rd"
    refine RD.ifF ?_
    walk_at "rd"
    refine RD.ifF ?_
    walk_at "rd"
    refine RD.ifT ?_
    with_reducible refine RD.ret ?_
    refine ret ?_
    rw [show withD d 7 = .t [.s "while", .t [.s "not", .t [.s "same", .t [.s "none"], d]], .t []] from rfl]
    walk_at "de"
  · walk_at "rd"
    refine RD.ifF ?_
    walk_at "rd"
    refine RD.ifF ?_
    walk_at "rd"
    refine RD.ifF ?_
    walk_at "rd"
    refine RD.ifF ?_
    walk_at "rd"
    refine RD.ifF ?_
    walk_at "rd"
    refine RD.ifF ?_
    walk_at "rd"
    refine RD.ifF ?_
    walk_at "rd"
    refine RD.ifF ?_
    with_reducible refine RD.next ?_
    with_reducible refine RD.ret ?_
    refine ret ?_
    rw [show withD d 8 = .t [.s "if", .t [.s "both", .t [.s "same", .t [.s "none"], .t [.s "none"]], .t [.s "same", d, .t [.s "none"]]], .t [], .t []] from rfl]
    walk_at "de"
theorem sc__law_simple : FnScope ["_law_state", "_law_kind"] ["_law_state", "_law_kind"] (defScope (topS 54)) := ⟨rfl, rfl, rfl, by decide +kernel, rfl, by decide +kernel, by decide +kernel⟩
theorem ok_lsimple (T : TxtL K mg) (c__law_draw : Cal P w K mg base 2 "_law_draw" spDraw []) {f : Addr} {fd : FuncData} (F : Fun K "_law_simple" "_law_simple" (topS 54) f fd) : FnOk P w K mg base CX0 3 f fd ["_law_state", "_law_kind"] (spSimple K) := by
  refine F.ok sc__law_simple (fun vs H Q E h => ?_) (fun cdv A outer s H vs Q E hr h => ?_)
  · obtain ⟨st, k, rfl, _⟩ := h
    rfl
  obtain ⟨st, k, rfl, hk, hst, q⟩ := h
  refine ⟨_, (pss_cons (ps_if (pt_cmpR op_eq (pv 1) pe_int (nomark _)) (pss_one (ps_ret (pe_tup (pa_cons pe_str pa_nil)))) pss_nil)
      (pss_cons (ps_if (pt_cmpR op_eq (pv 1) pe_int (nomark _)) (pss_one (ps_ret (pe_tup (pa_cons pe_str (pa_cons (pe_ix ix_list (pe_lst (pa_cons pe_str (pa_cons pe_str (pa_cons pe_str (pa_cons pe_str (pa_cons pe_str (pa_cons pe_str pa_nil))))))) (pe_c c__law_draw hr (by decide) (by rfl) (pa_cons (pv 0) (pa_cons pe_int pa_nil))) (fun _ _ => rfl)) pa_nil))))) pss_nil)
      (pss_one (ps_ret (pe_tup (pa_cons pe_str (pa_cons (pe_ix ix_list (pe_lst (pa_cons pe_str (pa_cons pe_str (pa_cons pe_str (pa_cons pe_str pa_nil))))) (pe_c c__law_draw hr (by decide) (by rfl) (pa_cons (pv 0) (pa_cons pe_int pa_nil))) (fun _ _ => rfl)) pa_nil))))))), ?_⟩
  have hk2 : k = 0 ∨ k = 1 ∨ k = 2 := by omega
  rcases hk2 with rfl | rfl | rfl
  · walk_at "rd"
    refine RD.ifT ?_
    with_reducible refine RD.ret ?_
    refine DE.go (K := K) (d := .t [.s "me"]) (by walk_at "de") fun H2 v2 s2 r2 => q Str.empty v2 H2 (fun h => absurd h (by decide)) (fun h => absurd h (by decide)) (.of s2) (hst.same s2) r2
  · walk_at "rd"
    refine RD.ifF ?_
    walk_at "rd"
    refine RD.ifT ?_
    walk_at "rd"
    refine ⟨by show 6 ≤ sizeLine; decide, fun l nl => ?_⟩
    obtain ⟨xs, hx⟩ := hst.lst
    have s1 : Same H (upd H l (.lst (six.map V.str))) := (Same.refl H).nw nl
    walk_at "rd"
    refine ⟨st, 6, rfl, hst.same s1, by decide, by decide, fun k H1 hk1 b1 hst1 _ => ?_⟩
    have hk6 : k < six.length := hk1
    have hl : H1 l = some (.lst (six.map V.str)) := b1 l _ (Ne.symm (ne_of_none hx nl)) upd_same
    refine RD.ixL (.inl (.inl hl)) (atI_nat (v := .str six[k]) (by rw [List.getElem?_map, List.getElem?_eq_getElem hk6]; rfl)) ?_
    walk_at "rd"
    refine ⟨sl2, fun p np => ?_⟩
    have small := (show ∀ z ∈ six, z.length ≤ 1000 by decide +kernel) six[k] (List.getElem_mem _)
    have s2 := (Same.refl H1).nw (o := .tup [.str "field", .str six[k]]) np
    exact q six[k] _ _ (fun _ => List.getElem_mem _) (fun h => absurd h (by decide)) (((Btw.of s1).trans b1).trans (.of s2)) (hst1.same s2) (rep_t.mpr ⟨p, _, rfl, .inl (.inl upd_same), reps_cons.mpr ⟨_, _, rfl, rep_s.mpr ⟨rfl, by decide +kernel⟩, reps_cons.mpr ⟨_, _, rfl, rep_s.mpr ⟨rfl, small⟩, reps_nil.mpr rfl⟩⟩⟩)
  · walk_at "rd"
    refine RD.ifF ?_
    walk_at "rd"
    refine RD.ifF ?_
    walk_at "rd"
    refine ⟨by show 4 ≤ sizeLine; decide, fun l nl => ?_⟩
    obtain ⟨xs, hx⟩ := hst.lst
    have s1 : Same H (upd H l (.lst (four.map V.str))) := (Same.refl H).nw nl
    walk_at "rd"
    refine ⟨st, 4, rfl, hst.same s1, by decide, by decide, fun k H1 hk1 b1 hst1 _ => ?_⟩
    have hk6 : k < four.length := hk1
    have hl : H1 l = some (.lst (four.map V.str)) := b1 l _ (Ne.symm (ne_of_none hx nl)) upd_same
    refine RD.ixL (.inl (.inl hl)) (atI_nat (v := .str four[k]) (by rw [List.getElem?_map, List.getElem?_eq_getElem hk6]; rfl)) ?_
    walk_at "rd"
    refine ⟨sl2, fun p np => ?_⟩
    have small := (show ∀ z ∈ four, z.length ≤ 1000 by decide +kernel) four[k] (List.getElem_mem _)
    have s2 := (Same.refl H1).nw (o := .tup [.str "new", .str four[k]]) np
    exact q four[k] _ _ (fun h => absurd h (by decide)) (fun _ => List.getElem_mem _) (((Btw.of s1).trans b1).trans (.of s2)) (hst1.same s2) (rep_t.mpr ⟨p, _, rfl, .inl (.inl upd_same), reps_cons.mpr ⟨_, _, rfl, rep_s.mpr ⟨rfl, by decide +kernel⟩, reps_cons.mpr ⟨_, _, rfl, rep_s.mpr ⟨rfl, small⟩, reps_nil.mpr rfl⟩⟩⟩)
theorem sc__law_simple_fits : FnScope ["_law_one", "_law_box_here", "_law_in_method"] ["_law_one", "_law_box_here", "_law_in_method"] (defScope (topS 55)) := ⟨rfl, rfl, rfl, by decide +kernel, rfl, by decide +kernel, by decide +kernel⟩
theorem ok_lfits (T : TxtL K mg) {f : Addr} {fd : FuncData} (F : Fun K "_law_simple_fits" "_law_simple_fits" (topS 55) f fd) : FnOk P w K mg base CX0 1 f fd ["_law_one", "_law_box_here", "_law_in_method"] (spFits K) := by
  refine F.ok sc__law_simple_fits (fun vs H Q E h => ?_) (fun cdv A outer s H vs Q E hr h => ?_)
  · obtain ⟨k, z, c, v, vb, fa, ma, im, rfl, _⟩ := h
    rfl
  obtain ⟨k, z, c, v, vb, fa, ma, im, rfl, hk, hR, ⟨pb, fk, mk, rfl, hSb, hfa, hF, hma, hM, _⟩, q⟩ := h
  have hu := hu_of hr
  refine ⟨_, (pss_cons (ps_if (pt_cmpR op_eq (pe_ix ix_tup (pv 0) pe_int (fun _ _ => rfl)) pe_str (nomark _)) (pss_one (ps_ret (pv 2))) pss_nil)
      (pss_cons (ps_if (pt_cmpR op_eq (pe_ix ix_tup (pv 0) pe_int (fun _ _ => rfl)) pe_str (nomark _)) (pss_one (ps_ret (pe_and (pv 2) (pe_one (pe_cmp (pc_din hu (pe_ix ix_tup (pv 0) pe_int (fun _ _ => rfl)) (pe_ix ix_tup (pv 1) pe_int (fun _ _ => rfl)))))))) pss_nil)
      (pss_one (ps_ret (pe_cmpR op_ne (pe_ix ix_tup (pv 0) pe_int (fun _ _ => rfl)) pe_str (nomark _)))))), ?_⟩
  have hk2 : k = 0 ∨ k = 1 ∨ k = 2 := by omega
  rcases hk2 with rfl | rfl | rfl
  · obtain ⟨p, vs, rfl, hS, hRs⟩ := rep_t.mp (show Rep K H (.t [.s "me"]) v from hR)
    obtain ⟨v1, r1, rfl, h1, hr1⟩ := reps_cons.mp hRs
    obtain ⟨rfl, _⟩ := rep_s.mp h1
    walk_at "rd"
    refine RD.ixT hS at0 ?_
    walk_at "rd"
    refine RD.ifT ?_
    walk_at "rd"
    exact q
  · obtain ⟨p, vs, rfl, hS, hRs⟩ := rep_t.mp (show Rep K H (.t [.s "field", .s z]) v from hR)
    obtain ⟨v1, r1, rfl, h1, hr1⟩ := reps_cons.mp hRs
    obtain ⟨rfl, _⟩ := rep_s.mp h1
    obtain ⟨v2, r2, rfl, h2, hr2⟩ := reps_cons.mp hr1
    obtain ⟨rfl, _⟩ := rep_s.mp h2
    walk_at "rd"
    refine RD.ixT hS at0 ?_
    walk_at "rd"
    refine RD.ifF ?_
    walk_at "rd"
    refine RD.ixT hS at0 ?_
    walk_at "rd"
    refine RD.ifT ?_
    walk_at "rd"
    cases im with
    | false =>
      walk_at "rd"
      exact q
    | true =>
      walk_at "rd"
      refine RD.ixT hS at1 ?_
      walk_at "rd"
      refine RD.ixT hSb at2 ?_
      refine ⟨fa, _, rfl, DGet_rd (.inl hfa), ?_⟩
      rw [(hF.look z).1]
      exact q
  · obtain ⟨p, vs, rfl, hS, hRs⟩ := rep_t.mp (show Rep K H (.t [.s "new", .s z]) v from hR)
    obtain ⟨v1, r1, rfl, h1, hr1⟩ := reps_cons.mp hRs
    obtain ⟨rfl, _⟩ := rep_s.mp h1
    obtain ⟨v2, r2, rfl, h2, hr2⟩ := reps_cons.mp hr1
    obtain ⟨rfl, _⟩ := rep_s.mp h2
    walk_at "rd"
    refine RD.ixT hS at0 ?_
    walk_at "rd"
    refine RD.ifF ?_
    walk_at "rd"
    refine RD.ixT hS at0 ?_
    walk_at "rd"
    refine RD.ifF ?_
    walk_at "rd"
    refine RD.ixT hS at1 ?_
    walk_at "rd"
    exact q
theorem sc__law_box : FnScope ["_law_state", "_law_parent", "_law_fields", "_law_name"] ["_law_state"] (defScope (topS 53)) := ⟨rfl, rfl, rfl, by decide +kernel, rfl, by decide +kernel, by decide +kernel⟩
theorem ok_lbox (T : TxtL K mg) (c__law_draw : Cal P w K mg base 2 "_law_draw" spDraw []) {f : Addr} {fd : FuncData} (F : Fun K "_law_box" "_law_box" (topS 53) f fd) : FnOk P w K mg base CX0 3 f fd ["_law_state"] (spBox K) := by
  refine F.ok sc__law_box (fun vs H Q E h => ?_) (fun cdv A outer s H vs Q E hr h => ?_)
  · obtain ⟨st, rfl, _⟩ := h
    rfl
  obtain ⟨st, rfl, hst, q⟩ := h
  have hu := hu_of hr
  obtain ⟨xs, hx⟩ := hst.lst
  refine ⟨_, (pss_cons (ps_set (i := 1) sc__law_box.nd rfl (Or.inl rfl) (pe_ix ix_list (pe_lst (pa_cons pe_non (pa_cons pe_str pa_nil))) (pe_c c__law_draw hr (by decide) (by rfl) (pa_cons (pv 0) (pa_cons pe_int pa_nil))) (fun _ _ => rfl)))
      (pss_cons (ps_set (i := 2) sc__law_box.nd rfl (Or.inl rfl) pe_dnewK)
      (pss_cons (ps_for PassesOwn.never rfl (pi_list (pe_lst (pa_cons pe_str (pa_cons pe_str (pa_cons pe_str pa_nil))))) (pg_name (i := 3) sc__law_box.nd rfl (Or.inl rfl)) (pss_one (ps_if (pt_cmpR op_eq (pe_c c__law_draw hr (by decide) (by rfl) (pa_cons (pv 0) (pa_cons pe_int pa_nil))) pe_int (nomark _)) (pss_one (ps_dput hu (pv 2) (pv 3) (pe_tup (pa_cons pe_str (pa_cons pe_str pa_nil))) rfl)) pss_nil)))
      (pss_one (ps_ret (pe_tup (pa_cons (pv 1) (pa_cons (pe_ix ix_list (pe_lst (pa_cons pe_str (pa_cons pe_str pa_nil))) (pe_c c__law_draw hr (by decide) (by rfl) (pa_cons (pv 0) (pa_cons pe_int pa_nil))) (fun _ _ => rfl)) (pa_cons (pv 2) (pa_cons pe_dnewK pa_nil)))))))))), ?_⟩
  walk_at "rd"
  refine ⟨sl2, fun l nl => ?_⟩
  have s1 : Same H (upd H l (.lst [.non, .str "top"])) := (Same.refl H).nw nl
  walk_at "rd"
  refine ⟨st, 2, rfl, hst.same s1, by decide, by decide, fun k H1 hk1 b1 hst1 _ => ?_⟩
  have hl : H1 l = some (.lst [.non, .str "top"]) := b1 l _ (Ne.symm (ne_of_none hx nl)) upd_same
  obtain ⟨par, hpar, epar⟩ : ∃ par : Option Str, (par = none ∨ par = some ("top" : Str)) ∧ [V.non, V.str "top"][k]? = some (optV par) := by
    have : k = 0 ∨ k = 1 := by omega
    rcases this with rfl | rfl
    · exact ⟨none, .inl rfl, rfl⟩
    · exact ⟨some "top", .inr rfl, rfl⟩
  refine RD.ixL (.inl (.inl hl)) (atI_nat epar) ?_
  walk_at "rd"
  have b01 : Btw st H H1 := (Btw.of s1).trans b1
  obtain ⟨xs1, hx1⟩ := hst1.lst
  intro d nd
  have hd0 : H d = none := none_btw b01 hx1 nd
  have s2 : Same H1 (upd H1 d (.dK [])) := (Same.refl H1).nw nd
  have hd2 : (upd H1 d (.dK [])) d = some (.dK []) := upd_same
  revert s2 hd2
  generalize upd H1 d (.dK []) = H2
  intro s2 hd2
  with_reducible refine RD.gname ?_
  with_reducible refine RD.seq ?_
  unfold tFor
  walk_at "rd"
  refine ⟨by show 3 ≤ sizeLine; decide, fun l2 nl2 => ?_⟩
  have s3 : Same H2 (upd H2 l2 (.lst (hfg.map V.str))) := (Same.refl H2).nw nl2
  have hl2st : l2 ≠ st := by
    obtain ⟨ys, hy⟩ := (hst1.same s2).lst
    exact Ne.symm (ne_of_none hy nl2)
  have hl3 : (upd H2 l2 (.lst (hfg.map V.str))) l2 = some (.lst (hfg.map V.str)) := upd_same
  refine ⟨l2, rfl, ⟨_, .inl (.inl hl3)⟩, for_list (xs := hfg.map V.str) (fun i σ H' => ∃ (bs : List Str) (fk : List (Key × V)) (o3 : Option V), σ = [some (.ref st), some (optV par), some (.ref d), o3] ∧ Btw st H H' ∧ DSt H' st ∧ H' d = some (.dK fk) ∧ H' l2 = some (.lst (hfg.map V.str)) ∧ bs.Sublist (hfg.take i) ∧ DRep K H' (bs.map fw) fk)
    ⟨[], [], none, rfl, (b01.trans (.of s2)).trans (.of s3), (hst1.same s2).same s3, s3 _ _ hd2, hl3, List.Sublist.refl _, DRep.nil⟩ (fun i σ H' _ ⟨_, _, _, _, _, _, _, h, _⟩ => .inl (.inl h)) (fun i x σ H' hx hP => ?_) fun σ H' hP => ?_⟩
  · obtain ⟨bs, fk, o3, rfl, b, hs', hd', hl', hsub, hD⟩ := hP
    rw [List.getElem?_map] at hx
    obtain ⟨z, hz, rfl⟩ := Option.map_eq_some_iff.mp hx
    obtain ⟨ys, hy⟩ := hs'.lst
    have hds : d ≠ st := fun e => by rw [e, hy] at hd'; cases hd'
    walk_at "rd"
    refine ⟨st, 2, rfl, hs', by decide, by decide, fun k2 H4 hk2 b4 hs4 _ => ?_⟩
    have hd4 := b4 _ _ hds hd'
    have hD4 := hD.btw hy b4 (noO_fw bs)
    have hl4 := b4 l2 _ hl2st hl'
    have hlen := hD4.len
    walk_at "rd"
    refine ite2 (fun h1 => ?_) (fun h1 => ?_)
    · with_reducible refine RD.dput ?_
      refine DE.go (K := K) (d := .t [.s "a", .s "b"]) (by walk_at "de") fun H5 vt s5 rt => ?_
      walk_at "rd"
      have hd5 := s5 _ _ hd4
      have hD5 := hD4.lk (.of s5)
      have hzn : z ∉ bs := fun hm => hfg_new hz (hsub.mem hm)
      have hnew : (Sum.inr z : Key) ∉ fk.map (·.1) := by
        rw [hD5.keys, List.map_map]
        intro hm
        obtain ⟨q, hq, e⟩ := List.mem_map.mp hm
        exact hzn (by rw [← Sum.inr.inj e]; exact hq)
      have hbl : bs.length ≤ 3 := Nat.le_trans hsub.length_le (by rw [List.length_take]; exact Nat.min_le_right _ _)
      rw [List.length_map] at hlen
      refine ⟨d, _, rfl, DPut.k (k := Sum.inr z) hd5 (by rw [sizeLine_eq]; omega), ?_⟩
      have hn1 : noOs ((bs.map fw).map (·.2)) = true := noO_fw bs
      refine ⟨bs ++ [z], fk ++ [(Sum.inr z, vt)], _, rfl, fun c u hc hu => ?_, ?_, by rw [putK_new hnew]; exact upd_same, ?_, ?_, ?_⟩
      · rw [upd_ne (ne_of_none hu hd0)]
        exact s5 _ _ (b4 _ _ hc (b _ _ hc hu))
      · obtain ⟨cl, ns, a5, h5, sd5, g1, g2, g3⟩ := (hs4.same s5).ex
        exact ⟨cl, ns, a5, h5, sd5, by rw [upd_ne (Ne.symm hds)]; exact g1, by rw [upd_ne (fun e => by rw [e, hd5] at g2; cases g2)]; exact g2, g3⟩
      · rw [upd_ne (fun e => by rw [e, hd4] at hl4; cases hl4)]
        exact s5 _ _ hl4
      · rw [List.take_succ, hz]
        exact hsub.append (List.Sublist.refl _)
      · rw [List.map_append]
        refine DRep.snoc (hD5.put hd5 hn1) ?_ ((show ∀ z ∈ hfg, z.length ≤ 1000 by decide +kernel) z (List.mem_of_getElem? hz)) (by rw [List.map_map]; intro hm; obtain ⟨q, hq, e⟩ := List.mem_map.mp hm; exact hzn (by rw [← e]; exact hq)) (by rw [List.length_map]; omega)
        exact Rep.but (fun xs e => by rw [hd5] at e; cases e) (fun o xs e => by rw [hd5] at e; cases e) (fun b u hb hu => by rw [upd_ne hb]; exact hu) (by decide +kernel) rt
    · with_reducible refine RD.next ?_
      exact ⟨bs, fk, _, rfl, b.trans b4, hs4, hd4, hl4, hsub.trans (by rw [List.take_succ]; exact List.sublist_append_left _ _), hD4⟩
  · obtain ⟨bs, fk, o3, rfl, b, hs', hd', hl', hsub, hD⟩ := hP
    obtain ⟨ys, hy⟩ := hs'.lst
    have hds : d ≠ st := fun e => by rw [e, hy] at hd'; cases hd'
    walk_at "rd"
    refine ⟨sl2, fun l3 nl3 => ?_⟩
    have s3' : Same H' (upd H' l3 (.lst [.str "open", .str "closed"])) := (Same.refl H').nw nl3
    walk_at "rd"
    refine ⟨st, 2, rfl, hs'.same s3', by decide, by decide, fun k3 H4 hk3 b4 hs4 _ => ?_⟩
    have hl4 : H4 l3 = some (.lst [.str "open", .str "closed"]) := b4 l3 _ (Ne.symm (ne_of_none hy nl3)) upd_same
    have b04 : Btw st H' H4 := (Btw.of s3').trans b4
    have hd4 := b04 _ _ hds hd'
    have hD4 := hD.btw hy b04 (noO_fw bs)
    obtain ⟨mark, hmark, emark⟩ : ∃ mark : Str, markB mark = true ∧ [V.str "open", V.str "closed"][k3]? = some (V.str mark) := by
      have : k3 = 0 ∨ k3 = 1 := by omega
      rcases this with rfl | rfl
      · exact ⟨"open", by decide +kernel, rfl⟩
      · exact ⟨"closed", by decide +kernel, rfl⟩
    refine RD.ixL (.inl (.inl hl4)) (atI_nat emark) ?_
    walk_at "rd"
    intro d2 nd2
    have s5 : Same H4 (upd H4 d2 (.dK [])) := (Same.refl H4).nw nd2
    have hd25 : (upd H4 d2 (.dK [])) d2 = some (.dK []) := upd_same
    have hne2 : d ≠ d2 := ne_of_none hd4 nd2
    revert s5 hd25
    generalize upd H4 d2 (.dK []) = H5
    intro s5 hd25
    walk_at "rd"
    refine ⟨sl4, fun p np => ?_⟩
    have s6 : Same H5 (upd H5 p (.tup [optV par, .str mark, .ref d, .ref d2])) := (Same.refl H5).nw np
    refine q ⟨par, mark, bs.map fw, []⟩ _ d d2 _ ⟨hpar, hmark, rfl, bs, ?_, rfl⟩ (((b.trans b04).trans (.of s5)).trans (.of s6)) ((hs4.same s5).same s6) ⟨p, fk, [], rfl, .inl (.inl upd_same), s6 _ _ (s5 _ _ hd4), (hD4.lk (.of s5)).lk (.of s6), s6 _ _ hd25, DRep.nil, ?_⟩ hne2
    · have : hfg.take (hfg.map V.str).length = hfg := rfl
      rw [this] at hsub
      exact hsub
    · rcases hpar with rfl | rfl
      · exact Nat.zero_le _
      · show ("top" : Str).length ≤ 1000
        decide +kernel
end
end SF

set_option Elab.async false
set_option linter.all false
set_option maxRecDepth 100000
set_option maxHeartbeats 4000000
namespace SF
open PySem PySem.Spec PyProof.Rows L2 G0
open C8 (Cal Mak Met pe_c pe_mk pe_mt pe_mt0 pe_gc)
theorem rep_new {K : PySem.W.Frag} {H : Hp} {p : Addr} {vs : List V} {ds : List D} (np : H p = none) (r : Reps K H ds vs) : Rep K (upd H p (.tup vs)) (.t ds) (.ref p) := rep_t.mpr ⟨p, vs, rfl, .inl (.inl upd_same), Reps.same ((Same.refl H).nw np) r⟩
theorem rc {K : PySem.W.Frag} {H : Hp} {d : D} {ds : List D} {v : V} {vs : List V} (h : Rep K H d v) (r : Reps K H ds vs) : Reps K H (d :: ds) (v :: vs) := reps_cons.mpr ⟨v, vs, rfl, h, r⟩
theorem rn {K : PySem.W.Frag} {H : Hp} : Reps K H [] [] := reps_nil.mpr rfl
theorem rs {K : PySem.W.Frag} {H : Hp} {z : Str} (h : z.length ≤ 1000 := by decide +kernel) : Rep K H (.s z) (.str z) := rep_s.mpr ⟨rfl, h⟩
theorem rep3 {K : PySem.W.Frag} {H : Hp} {l : Addr} {u : V} {d : D} {k : Nat} {Q : VK} (hl : H l = some (.tup [u])) (hu : Rep K H d u) (hk : k < 3) (q : ∀ H' v, Same H H' → Rep K H' (.t (List.replicate k d)) v → Q v H') : G4.rRepA K (.ref l) (.int (k : Nat)) H Q := by
  refine ⟨l, (k : Nat), [u], rfl, rfl, .inl (.inl hl), by simp, (by decide : 1 ≤ 1000), ?_⟩
  have : k = 0 ∨ k = 1 ∨ k = 2 := by omega
  rcases this with rfl | rfl | rfl
  · exact .inl ⟨rfl, fun p np => q _ _ ((Same.refl H).nw np) (rep_t.mpr ⟨p, [], rfl, .inl (.inl upd_same), reps_nil.mpr rfl⟩)⟩
  · exact .inr (.inl ⟨rfl, q _ _ (Same.refl H) (rep_t.mpr ⟨l, [u], rfl, .inl (.inl hl), reps_cons.mpr ⟨u, [], rfl, hu, reps_nil.mpr rfl⟩⟩)⟩)
  · refine .inr (.inr ⟨by decide, by decide, fun p np => ?_⟩)
    have s := (Same.refl H).nw (o := .tup (List.replicate (Int.toNat ((2 : Nat) : Int)) [u]).flatten) np
    exact q _ _ s (rep_t.mpr ⟨p, [u, u], rfl, .inl (.inl upd_same), reps_cons.mpr ⟨u, [u], rfl, hu.same s, reps_cons.mpr ⟨u, [], rfl, hu.same s, reps_nil.mpr rfl⟩⟩⟩)
section
variable {P : Program} {w : World} {K : PySem.W.Frag} {mg : Str → Option Value} {base : Heap}
local macro_rules | `(tactic| walk_at "rd1") => `(tactic| first
  | (with_reducible refine RD.seq ?_) | (with_reducible refine RD.next ?_) | (with_reducible refine RD.ifS ?_) | (with_reducible refine RD.ret ?_) | (with_reducible refine RD.retN ?_) | (with_reducible refine RD.drop ?_) | (with_reducible refine RD.asg ?_) | (with_reducible refine RD.gname ?_)
  | ((with_reducible apply RD.var); exact rfl) | (with_reducible refine RD.c_ ?_) | (with_reducible refine RD.op ?_) | (with_reducible refine RD.un ?_) | (with_reducible refine RD.cb ?_) | (with_reducible refine RD.cons ?_) | (with_reducible refine RD.nil ?_) | (with_reducible refine RD.tup ?_) | (with_reducible refine RD.lst ?_)
  | (with_reducible refine RD.B_ ?_) | (with_reducible refine RD.test ?_) | (with_reducible refine RD.exB ?_) | (with_reducible refine RD.exI ?_) | (with_reducible refine RD.and_ ?_) | (with_reducible refine RD.or_ ?_) | (with_reducible refine RD.not_ ?_) | (with_reducible refine RD.andV ?_) | (with_reducible refine RD.orV ?_) | (with_reducible refine RD.notV ?_) | (with_reducible refine RD.if_ ?_)
  | (with_reducible refine RD.ifT ?_) | (with_reducible refine RD.ifF ?_) | (with_reducible refine RD.ifNT ?_) | (with_reducible refine RD.ifNF ?_) | (with_reducible refine RD.yes ?_) | (with_reducible refine RD.sl ?_) | (with_reducible refine RD.noPart ?_) | (with_reducible refine RD.part ?_) | (with_reducible refine RD.i0 ?_) | (with_reducible refine RD.eqS ?_) | (with_reducible refine RD.eqI ?_) | (with_reducible refine RD.neS ?_) | (with_reducible refine RD.neI ?_)
  | (with_reducible refine RD.isN_n ?_) | (with_reducible refine RD.isN_r ?_) | (with_reducible refine RD.isN_s ?_) | (with_reducible refine RD.isN_b ?_) | (with_reducible refine RD.isN_i ?_) | (with_reducible refine RD.notN_n ?_) | (with_reducible refine RD.notN_r ?_) | (with_reducible refine RD.notN_s ?_)
  | (with_reducible refine RD.call ?_) | (with_reducible refine RD.make ?_) | (with_reducible refine RD.gcons ?_) | (with_reducible refine RD.gnil ?_) | (with_reducible refine RD.bm ?_) | (with_reducible refine RD.bm0 ?_) | (with_reducible refine RD.dget ?_) | (with_reducible refine RD.din ?_) | (with_reducible refine RD.tfld ?_) | (with_reducible refine RD.then_ ?_) | (with_reducible refine RD.chain ?_) | (with_reducible refine RD.itup ?_) | (with_reducible refine RD.ikeys ?_) | (with_reducible refine RD.ivals ?_) | (with_reducible refine RD.iitems ?_) | (with_reducible refine RD.lset ?_) | (with_reducible refine RD.ilist ?_) | ((with_reducible apply RD.aug); exact rfl))
local macro_rules | `(tactic| walk_at "rd") => `(tactic| repeat walk_at "rd1")

theorem sc__law_case : FnScope ["_law_state", "_law_box_here", "_law_in_method", "_law_in_function", "_law_kind", "_law_one", "_law_name", "_law_call"] ["_law_state", "_law_box_here", "_law_in_method", "_law_in_function"] (defScope (topS 57)) := ⟨rfl, rfl, rfl, by decide +kernel, rfl, by decide +kernel, by decide +kernel⟩
theorem ok_lcase (T : TxtL K mg) (c__law_draw : Cal P w K mg base 2 "_law_draw" spDraw []) (c__law_simple : Cal P w K mg base 3 "_law_simple" (spSimple K) []) (c__law_with : Cal P w K mg base 3 "_law_with" (spWith K) []) (c__law_simple_fits : Cal P w K mg base 1 "_law_simple_fits" (spFits K) [])
    {f : Addr} {fd : FuncData} (F : Fun K "_law_case" "_law_case" (topS 57) f fd) : FnOk P w K mg base CX0 4 f fd ["_law_state", "_law_box_here", "_law_in_method", "_law_in_function"] (spCase K) := by
  refine F.ok sc__law_case (fun vs H Q E h => ?_) (fun cdv A outer s H vs Q E hr h => ?_)
  · obtain ⟨st, c, vb, fa, ma, im, inf, rfl, _⟩ := h
    rfl
  obtain ⟨st, c, vb, fa, ma, im, inf, rfl, hst, hbox, hC, q⟩ := h
  have hu := hu_of hr
  obtain ⟨xs, hx⟩ := hst.lst
  refine ⟨_, (pss_cons (ps_set (i := 4) sc__law_case.nd rfl (Or.inl rfl) (pe_c c__law_draw hr (by decide) (by rfl) (pa_cons (pv 0) (pa_cons pe_int pa_nil))))
      (pss_cons (ps_if (pt_cmpR op_lt (pv 4) pe_int (nomark _)) (pss_cons (ps_set (i := 5) sc__law_case.nd rfl (Or.inl rfl) (pe_c c__law_simple hr (by decide) (by rfl) (pa_cons (pv 0) (pa_cons (pv 4) pa_nil))))
      (pss_one (ps_ret (pe_tup (pa_cons (pe_c c__law_with hr (by decide) (by rfl) (pa_cons (pv 0) (pa_cons (pv 5) pa_nil))) (pa_cons (pe_c c__law_simple_fits hr (by decide) (by rfl) (pa_cons (pv 5) (pa_cons (pv 1) (pa_cons (pv 2) pa_nil)))) pa_nil)))))) pss_nil)
      (pss_cons (ps_if (pt_cmpR op_eq (pv 4) pe_int (nomark _)) (pss_cons (ps_set (i := 6) sc__law_case.nd rfl (Or.inl rfl) (pe_ix ix_list (pe_lst (pa_cons pe_str (pa_cons pe_str (pa_cons pe_str (pa_cons pe_str (pa_cons pe_str (pa_cons pe_str pa_nil))))))) (pe_c c__law_draw hr (by decide) (by rfl) (pa_cons (pv 0) (pa_cons pe_int pa_nil))) (fun _ _ => rfl)))
      (pss_one (ps_ret (pe_tup (pa_cons (pe_tup (pa_cons pe_str (pa_cons (pv 6) (pa_cons (pe_tup (pa_cons pe_str (pa_cons pe_str pa_nil))) pa_nil)))) (pa_cons (pe_and (pv 2) (pe_one (pe_cmp (pc_din hu (pv 6) (pe_ix ix_tup (pv 1) pe_int (fun _ _ => rfl)))))) pa_nil)))))) pss_nil)
      (pss_cons (ps_if (pt_cmpR op_eq (pv 4) pe_int (nomark _)) (pss_cons (ps_set (i := 7) sc__law_case.nd rfl (Or.inl rfl) (pe_tup (pa_cons pe_str (pa_cons pe_str (pa_cons (pe_op G4.op_repA (pe_tup (pa_cons (pe_tup (pa_cons pe_str pa_nil)) pa_nil)) (pe_c c__law_draw hr (by decide) (by rfl) (pa_cons (pv 0) (pa_cons pe_int pa_nil)))) pa_nil)))))
      (pss_one (ps_ret (pe_tup (pa_cons (pe_tup (pa_cons pe_str (pa_cons pe_str (pa_cons (pv 7) pa_nil)))) (pa_cons (pe_and (pv 2) (pe_one (pe_cmpR op_notN1 (pe_ix ix_tup (pv 1) pe_int (fun _ _ => rfl)) pe_non (nomark _)))) pa_nil)))))) pss_nil)
      (pss_one (ps_ret (pe_tup (pa_cons (pe_tup (pa_cons pe_str (pa_cons (pe_tup (pa_cons pe_str pa_nil)) pa_nil))) (pa_cons (pe_or (pv 2) (pe_one (pv 3))) pa_nil))))))))), ?_⟩
  walk_at "rd"
  refine ⟨st, 6, rfl, hst, by decide, by decide, fun k H1 hk b1 hst1 _ => ?_⟩
  have hC1 := hC.btw hbox hx b1
  obtain ⟨xs1, hx1⟩ := hst1.lst
  walk_at "rd"
  refine ite2 (fun h3 => ?_) (fun h3 => ?_)
  · have hk3 : k < 3 := by
      have := of_decide_eq_true h3
      omega
    walk_at "rd"
    refine ⟨st, k, rfl, hk3, hst1, fun z v H2 hz1 hz2 b2 hst2 hR2 => ?_⟩
    obtain ⟨xs2, hx2⟩ := hst2.lst
    have hC2 := hC1.btw hbox hx1 b2
    walk_at "rd"
    refine ⟨st, _, v, rfl, hst2, noO_simple k z, hR2, fun w v' H3 hw b3 hst3 hR3 => ?_⟩
    have hC3 := hC2.btw hbox hx2 b3
    have hR23 := Rep.btw hx2 b3 (noO_simple k z) hR2
    walk_at "rd"
    refine ⟨k, z, c, v, vb, fa, ma, im, rfl, hk3, hR23, hC3, ?_⟩
    walk_at "rd"
    refine ⟨sl2, fun p np => ?_⟩
    have s4 := (Same.refl H3).nw (o := .tup [v', .bl (fitsB c im k z)]) np
    refine q _ _ p v' _ (fun P hP dp r hdp _ => ?_) (noO_with (noO_simple k z) w) ?_ (((b1.trans b2).trans b3).trans (.of s4)) (hst3.same s4) upd_same (hR3.same s4)
    · rw [ok_with hdp]
      exact fits_simple hP k z hk3 hz1 hz2
    · have := sz_with (simpleD k z) w
      have := sz_simple k z
      omega
  walk_at "rd"
  refine ite2 (fun h4 => ?_) (fun h4 => ?_)
  · walk_at "rd"
    refine ⟨by show 6 ≤ sizeLine; decide, fun l nl => ?_⟩
    have s2 : Same H1 (upd H1 l (.lst (six.map V.str))) := (Same.refl H1).nw nl
    walk_at "rd"
    refine ⟨st, 6, rfl, hst1.same s2, by decide, by decide, fun j H2 hj b2 hst2 _ => ?_⟩
    have b12 : Btw st H1 H2 := (Btw.of s2).trans b2
    have hC2 := hC1.btw hbox hx1 b12
    have hj6 : j < six.length := hj
    have hl : H2 l = some (.lst (six.map V.str)) := b2 l _ (Ne.symm (ne_of_none hx1 nl)) upd_same
    refine RD.ixL (.inl (.inl hl)) (atI_nat (v := .str six[j]) (by rw [List.getElem?_map, List.getElem?_eq_getElem hj6]; rfl)) ?_
    have small := (show ∀ z ∈ six, z.length ≤ 1000 by decide +kernel) six[j] (List.getElem_mem _)
    have nm := (show ∀ z ∈ six, nameS z = true by decide +kernel) six[j] (List.getElem_mem _)
    generalize six[j] = z at small nm
    walk_at "rd"
    refine ⟨sl2, fun p5 n5 => ?_⟩
    have r5 : Rep K (upd H2 p5 (.tup [.str "word", .str "a"])) (wD "a") (.ref p5) := rep_new n5 (rc rs (rc rs rn))
    have s5 : Same H2 (upd H2 p5 (.tup [.str "word", .str "a"])) := (Same.refl H2).nw n5
    revert r5 s5
    generalize upd H2 p5 (.tup [.str "word", .str "a"]) = H5
    intro r5 s5
    walk_at "rd"
    refine ⟨sl3, fun p6 n6 => ?_⟩
    have r6 : Rep K (upd H5 p6 (.tup [.str "keep", .str z, .ref p5])) (.t [.s "keep", .s z, wD "a"]) (.ref p6) := rep_new n6 (rc rs (rc (rs small) (rc r5 rn)))
    have s6 : Same H5 (upd H5 p6 (.tup [.str "keep", .str z, .ref p5])) := (Same.refl H5).nw n6
    revert r6 s6
    generalize upd H5 p6 (.tup [.str "keep", .str z, .ref p5]) = H6
    intro r6 s6
    have s26 := s5.trans s6
    have fin : ∀ p, H6 p = none → Q (.ref p) (upd H6 p (.tup [.ref p6, .bl (im && hasKey c.flds z)])) := fun p np => by
      have s7 := (Same.refl H6).nw (o := .tup [.ref p6, .bl (im && hasKey c.flds z)]) np
      refine q _ _ p _ _ (fun P hP dp r hdp _ => ?_) ?_ ?_ (((b1.trans b12).trans (.of s26)).trans (.of s7)) ((hst2.same s26).same s7) upd_same (r6.same s7)
      · rw [ok_keep nm, hP.fld]
      · rfl
      · exact (by decide : 6 ≤ 60)
    obtain ⟨pb, fk, mk, evb, hSb, hfa, hF, _⟩ := hC2.same s26
    walk_at "rd"
    cases im with
    | false =>
      walk_at "rd"
      exact ⟨sl2, fin⟩
    | true =>
      walk_at "rd"
      subst evb
      refine RD.ixT hSb at2 ?_
      refine ⟨fa, _, rfl, DGet_rd (.inl hfa), ?_⟩
      rw [(hF.look z).1]
      walk_at "rd"
      exact ⟨sl2, fin⟩
  walk_at "rd"
  refine ite2 (fun h5 => ?_) (fun h5 => ?_)
  · walk_at "rd"
    refine ⟨sl1, fun p1 n1 => ?_⟩
    have r1 : Rep K (upd H1 p1 (.tup [.str "none"])) noneD (.ref p1) := rep_new n1 (rc rs rn)
    have s1 : Same H1 (upd H1 p1 (.tup [.str "none"])) := (Same.refl H1).nw n1
    revert r1 s1
    generalize upd H1 p1 (.tup [.str "none"]) = H2
    intro r1 s1
    walk_at "rd"
    refine ⟨sl1, fun p2 n2 => ?_⟩
    have s2 : Same H2 (upd H2 p2 (.tup [.ref p1])) := (Same.refl H2).nw n2
    have r2 := r1.same s2
    have h2 : (upd H2 p2 (.tup [.ref p1])) p2 = some (.tup [.ref p1]) := upd_same
    revert r2 s2 h2
    generalize upd H2 p2 (.tup [.ref p1]) = H3
    intro s2 r2 h2
    have s13 := s1.trans s2
    have hst3 := hst1.same s13
    obtain ⟨xs3, hx3⟩ := hst3.lst
    walk_at "rd"
    refine ⟨st, 3, rfl, hst3, by decide, by decide, fun j H4 hj b4 hst4 _ => ?_⟩
    have r4 := Rep.btw hx3 b4 (by rfl) r2
    have h4' := b4 p2 _ (fun e => by rw [e, hx3] at h2; cases h2) h2
    have hC4 := (hC1.same s13).btw hbox hx3 b4
    refine rep3 h4' r4 hj fun H5 v5 s5 r5 => ?_
    walk_at "rd"
    refine ⟨sl3, fun p6 n6 => ?_⟩
    have r6 : Rep K (upd H5 p6 (.tup [.str "parent", .str "go", v5])) (.t [.s "parent", .s "go", .t (List.replicate j noneD)]) (.ref p6) := rep_new n6 (rc rs (rc rs (rc r5 rn)))
    have s6 : Same H5 (upd H5 p6 (.tup [.str "parent", .str "go", v5])) := (Same.refl H5).nw n6
    revert r6 s6
    generalize upd H5 p6 (.tup [.str "parent", .str "go", v5]) = H6
    intro r6 s6
    walk_at "rd"
    refine ⟨sl3, fun p7 n7 => ?_⟩
    have r7 : Rep K (upd H6 p7 (.tup [.str "let", .str "v", .ref p6])) (.t [.s "let", .s "v", .t [.s "parent", .s "go", .t (List.replicate j noneD)]]) (.ref p7) := rep_new n7 (rc rs (rc rs (rc r6 rn)))
    have s7 : Same H6 (upd H6 p7 (.tup [.str "let", .str "v", .ref p6])) := (Same.refl H6).nw n7
    revert r7 s7
    generalize upd H6 p7 (.tup [.str "let", .str "v", .ref p6]) = H7
    intro r7 s7
    have s47 := (s5.trans s6).trans s7
    have fin : ∀ p, H7 p = none → Q (.ref p) (upd H7 p (.tup [.ref p7, .bl (im && c.par.isSome)])) := fun p np => by
      have s8 := (Same.refl H7).nw (o := .tup [.ref p7, .bl (im && c.par.isSome)]) np
      refine q _ _ p _ _ (fun P hP dp r hdp _ => ?_) ?_ ?_ ((((b1.trans (.of s13)).trans b4).trans (.of s47)).trans (.of s8)) ((hst4.same s47).same s8) upd_same (r7.same s8)
      · rw [ok_parent (by omega), hP.hp]
      · have : j = 0 ∨ j = 1 ∨ j = 2 := by omega
        rcases this with rfl | rfl | rfl <;> rfl
      · have : j = 0 ∨ j = 1 ∨ j = 2 := by omega
        rcases this with rfl | rfl | rfl <;> decide
    obtain ⟨pb, fk, mk, evb, hSb, hfa, hF, _⟩ := hC4.same s47
    walk_at "rd"
    cases im with
    | false =>
      walk_at "rd"
      exact ⟨sl2, fin⟩
    | true =>
      walk_at "rd"
      subst evb
      refine RD.ixT hSb at0 ?_
      walk_at "rd"
      refine notN_o ?_
      walk_at "rd"
      exact ⟨sl2, fin⟩
  walk_at "rd"
  refine ⟨sl1, fun p1 n1 => ?_⟩
  have r1 : Rep K (upd H1 p1 (.tup [.str "none"])) noneD (.ref p1) := rep_new n1 (rc rs rn)
  have s1 : Same H1 (upd H1 p1 (.tup [.str "none"])) := (Same.refl H1).nw n1
  revert r1 s1
  generalize upd H1 p1 (.tup [.str "none"]) = H2
  intro r1 s1
  walk_at "rd"
  refine ⟨sl2, fun p2 n2 => ?_⟩
  have r2 : Rep K (upd H2 p2 (.tup [.str "return", .ref p1])) (.t [.s "return", noneD]) (.ref p2) := rep_new n2 (rc rs (rc r1 rn))
  have s2 : Same H2 (upd H2 p2 (.tup [.str "return", .ref p1])) := (Same.refl H2).nw n2
  revert r2 s2
  generalize upd H2 p2 (.tup [.str "return", .ref p1]) = H3
  intro r2 s2
  have s13 := s1.trans s2
  have fin : ∀ p, H3 p = none → Q (.ref p) (upd H3 p (.tup [.ref p2, .bl (im || inf)])) := fun p np => by
    have s8 := (Same.refl H3).nw (o := .tup [.ref p2, .bl (im || inf)]) np
    refine q _ _ p _ _ (fun P hP dp r hdp hr' => ?_) ?_ ?_ ((b1.trans (.of s13)).trans (.of s8)) ((hst1.same s13).same s8) upd_same (r2.same s8)
    · rw [ok_return]
      exact hr'
    · rfl
    · exact (by decide : 4 ≤ 60)
  walk_at "rd"
  cases im with
  | false =>
    walk_at "rd"
    exact ⟨sl2, fin⟩
  | true =>
    walk_at "rd"
    exact ⟨sl2, fin⟩
end
end SF

set_option Elab.async false
set_option linter.all false
set_option maxRecDepth 100000
set_option maxHeartbeats 4000000
namespace SF
open PySem PySem.Spec PyProof.Rows L2 G0
open C8 (Cal Mak Met pe_c pe_mk pe_mt pe_mt0 pe_gc)
theorem DSt.put {H1 H' : Hp} {st DD : Addr} {o : HO} (h1 : DSt H1 st) (b : Btw st H1 H') (f : Fst H1 H' st) (h' : DSt H' st) (hD : H1 DD = none) : DSt (upd H' DD o) st := by
  obtain ⟨cl, ns, a1, h1_, s1, e1, e2, e3, _⟩ := h1.ex
  obtain ⟨cl', ns', a2, h2_, s2, g1, g2, g3⟩ := h'.ex
  obtain ⟨ys, e5⟩ := f _ _ e1
  rw [g1] at e5
  have e6 : cl' = cl := by cases e5; rfl
  subst e6
  exact ⟨cl', ns', a2, h2_, s2, by rw [upd_ne (ne_of_none e1 hD)]; exact g1, by rw [upd_ne (ne_of_none e2 hD)]; exact g2, g3⟩
def wVs (ws : List Nat) : List V := ws.map fun w => V.int (w : Nat)
theorem wVs_flat (ws : List Nat) : (wVs ws).all flatV = true := by
  unfold wVs
  rw [List.all_map]
  exact List.all_eq_true.mpr fun _ _ => rfl
theorem inV_w (k : Nat) (ws : List Nat) : inV (.int (k : Nat)) (wVs ws) = ws.any fun w => decide (w = k) := by
  unfold inV wVs
  rw [List.any_map]
  refine congrArg _ (funext fun w => ?_)
  show (((w : Nat) : Int) == ((k : Nat) : Int)) = decide (w = k)
  by_cases h : w = k
  · subst h; simp
  · rw [decide_eq_false h]
    exact beq_eq_false_iff_ne.mpr (by omega)
def fnW (ws : List Nat) : Bool := ws.any fun w => decide (w < 2)
theorem fnW_eq (ws : List Nat) : ((ws.any fun w => decide (w = 0)) || (ws.any fun w => decide (w = 1))) = fnW ws := by
  unfold fnW
  induction ws with
  | nil => rfl
  | cons a r ih =>
    rw [List.any_cons, List.any_cons, List.any_cons, ← ih]
    have : decide (a < 2) = (decide (a = 0) || decide (a = 1)) := by
      by_cases h : a < 2
      · rw [decide_eq_true h]
        have : a = 0 ∨ a = 1 := by omega
        rcases this with rfl | rfl <;> rfl
      · rw [decide_eq_false h, decide_eq_false (by omega), decide_eq_false (by omega)]
        rfl
    rw [this]
    cases decide (a = 0) <;> cases decide (a = 1) <;> cases (r.any fun w => decide (w = 0)) <;> cases (r.any fun w => decide (w = 1)) <;> rfl
/-- behind j of the ways -/
def NestOk (c : Cl) (im inf : Bool) (ws : List Nat) (j : Nat) (d : D) (fits : Bool) : Prop := ∀ P, LP P c im → ∀ (dp : Nat) (r : Bool), dp + j < 8 → (r || fnW (ws.take j)) = (im || inf) → okI P ⟨.statement, d, dp, r, 0⟩ = fits
theorem NestOk.step {c : Cl} {im inf : Bool} {ws : List Nat} {j w : Nat} {d : D} {fits : Bool} (h : NestOk c im inf ws j d fits) (hw : ws[j]? = some w) : NestOk c im inf ws (j + 1) (nestD (.t [.t [.s "do", noneD], d]) w) fits := by
  intro P hP dp r hdp hr
  rw [ok_nest (by omega)]
  refine h P hP (dp + 1) _ (by omega) ?_
  rw [← hr, List.take_succ, hw]
  unfold fnW
  rw [List.any_append]
  show _ = (r || (_ || (decide (w < 2) || false)))
  rw [Bool.or_false]
  cases decide (w < 2) <;> cases r <;> cases ((ws.take j).any fun w => decide (w < 2)) <;> rfl
section
variable {P : Program} {w : World} {K : PySem.W.Frag} {mg : Str → Option Value} {base : Heap}
local macro_rules | `(tactic| walk_at "rd1") => `(tactic| first
  | (with_reducible refine RD.seq ?_) | (with_reducible refine RD.next ?_) | (with_reducible refine RD.ifS ?_) | (with_reducible refine RD.ret ?_) | (with_reducible refine RD.retN ?_) | (with_reducible refine RD.drop ?_) | (with_reducible refine RD.asg ?_) | (with_reducible refine RD.gname ?_)
  | ((with_reducible apply RD.var); exact rfl) | (with_reducible refine RD.c_ ?_) | (with_reducible refine RD.op ?_) | (with_reducible refine RD.un ?_) | (with_reducible refine RD.cb ?_) | (with_reducible refine RD.cons ?_) | (with_reducible refine RD.nil ?_) | (with_reducible refine RD.tup ?_) | (with_reducible refine RD.lst ?_)
  | (with_reducible refine RD.B_ ?_) | (with_reducible refine RD.test ?_) | (with_reducible refine RD.exB ?_) | (with_reducible refine RD.exI ?_) | (with_reducible refine RD.and_ ?_) | (with_reducible refine RD.or_ ?_) | (with_reducible refine RD.not_ ?_) | (with_reducible refine RD.andV ?_) | (with_reducible refine RD.orV ?_) | (with_reducible refine RD.notV ?_) | (with_reducible refine RD.if_ ?_)
  | (with_reducible refine RD.ifT ?_) | (with_reducible refine RD.ifF ?_) | (with_reducible refine RD.ifNT ?_) | (with_reducible refine RD.ifNF ?_) | (with_reducible refine RD.yes ?_) | (with_reducible refine RD.sl ?_) | (with_reducible refine RD.noPart ?_) | (with_reducible refine RD.part ?_) | (with_reducible refine RD.i0 ?_) | (with_reducible refine RD.eqS ?_) | (with_reducible refine RD.eqI ?_) | (with_reducible refine RD.neS ?_) | (with_reducible refine RD.neI ?_)
  | (with_reducible refine RD.isN_n ?_) | (with_reducible refine RD.isN_r ?_) | (with_reducible refine RD.isN_s ?_) | (with_reducible refine RD.isN_b ?_) | (with_reducible refine RD.isN_i ?_) | (with_reducible refine RD.notN_n ?_) | (with_reducible refine RD.notN_r ?_) | (with_reducible refine RD.notN_s ?_)
  | (with_reducible refine RD.call ?_) | (with_reducible refine RD.make ?_) | (with_reducible refine RD.gcons ?_) | (with_reducible refine RD.gnil ?_) | (with_reducible refine RD.bm ?_) | (with_reducible refine RD.bm0 ?_) | (with_reducible refine RD.dget ?_) | (with_reducible refine RD.din ?_) | (with_reducible refine RD.tfld ?_) | (with_reducible refine RD.then_ ?_) | (with_reducible refine RD.chain ?_) | (with_reducible refine RD.itup ?_) | (with_reducible refine RD.ikeys ?_) | (with_reducible refine RD.ivals ?_) | (with_reducible refine RD.iitems ?_) | (with_reducible refine RD.lset ?_) | (with_reducible refine RD.ilist ?_) | ((with_reducible apply RD.aug); exact rfl))
local macro_rules | `(tactic| walk_at "rd") => `(tactic| repeat walk_at "rd1")

theorem sc__law_placed : FnScope ["_law_state", "_law_box_here", "_law_in_method", "_law_ways", "_law_statement", "_law_fits", "_law_way", "_law_k"] ["_law_state", "_law_box_here", "_law_in_method"] (defScope (topS 59)) := ⟨rfl, rfl, rfl, by decide +kernel, rfl, by decide +kernel, by decide +kernel⟩
theorem ok_lplaced (T : TxtL K mg) (c__law_draw : Cal P w K mg base 2 "_law_draw" spDraw []) (c__law_case : Cal P w K mg base 4 "_law_case" (spCase K) []) (c__law_nest : Cal P w K mg base 1 "_law_nest" (spNest K) [])
    {f : Addr} {fd : FuncData} (F : Fun K "_law_placed" "_law_placed" (topS 59) f fd) : FnOk P w K mg base CX0 5 f fd ["_law_state", "_law_box_here", "_law_in_method"] (spPlaced K) := by
  refine F.ok sc__law_placed (fun vs H Q E h => ?_) (fun cdv A outer s H vs Q E hr h => ?_)
  · obtain ⟨st, c, vb, fa, ma, im, rfl, _⟩ := h
    rfl
  obtain ⟨st, c, vb, fa, ma, im, rfl, hst, hbox, hC, q⟩ := h
  obtain ⟨xs, hx⟩ := hst.lst
  refine ⟨_, (pss_cons (ps_setLc (i := 3) (own := [("_law_k", 7)]) (tt := tYes) rfl sc__law_placed.nd rfl rfl (sw_true rfl rfl rfl (by decide +kernel)) (pi_range1 (by rfl) T.b_range (pa_cons (pe_c c__law_draw hr (by decide) (by rfl) (pa_cons (pv 0) (pa_cons pe_int pa_nil))) pa_nil)) (blkOk_by (N := ["_law_state", "_law_box_here", "_law_in_method", "_law_ways", "_law_statement", "_law_fits", "_law_way", "_law_k"]) (sc := defScope (topS 59)) (by decide +kernel)) (fun _ _ _ _ _ => (pg_name (i := 7) sc__law_placed.nd rfl (Or.inl rfl))) (fun _ _ _ _ _ => pts_nil) (fun _ _ _ _ _ => (pe_c c__law_draw hr (by decide) (by rfl) (pa_cons (pv 0) (pa_cons pe_int pa_nil)))))
      (pss_cons (ps_asg (pe_c c__law_case hr (by decide) (by rfl) (pa_cons (pv 0) (pa_cons (pv 1) (pa_cons (pv 2) (pa_cons (pe_or (pe_cmpR op_in_seq pe_int (pv 3) (by rfl)) (pe_one (pe_cmpR op_in_seq pe_int (pv 3) (by rfl)))) pa_nil))))) (pg_tup rfl (pgs_cons (pg_name (i := 4) sc__law_placed.nd rfl (Or.inl rfl)) (pgs_cons (pg_name (i := 5) sc__law_placed.nd rfl (Or.inl rfl)) pgs_nil))))
      (pss_cons (ps_for PassesOwn.never rfl (pi_list (pv 3)) (pg_name (i := 6) sc__law_placed.nd rfl (Or.inl rfl)) (pss_one (ps_set (i := 4) sc__law_placed.nd rfl (Or.inl rfl) (pe_c c__law_nest hr (by decide) (by rfl) (pa_cons (pe_tup (pa_cons (pe_tup (pa_cons pe_str (pa_cons (pe_tup (pa_cons pe_str pa_nil)) pa_nil))) (pa_cons (pv 4) pa_nil))) (pa_cons (pv 6) pa_nil))))))
      (pss_one (ps_ret (pe_tup (pa_cons (pe_tup (pa_cons (pv 4) (pa_cons (pe_tup (pa_cons pe_str (pa_cons (pe_tup (pa_cons pe_str pa_nil)) pa_nil))) pa_nil))) (pa_cons (pv 5) pa_nil)))))))), ?_⟩
  walk_at "rd"
  unfold tLc
  refine RD.rng1 ?_
  walk_at "rd"
  refine ⟨st, 7, rfl, hst, by decide, by decide, fun m H1 hm b1 hst1 _ => ?_⟩
  obtain ⟨xs1, hx1⟩ := hst1.lst
  have hC1 := hC.btw hbox hx b1
  walk_at "rd"
  refine ⟨_, rfl, by omega, by omega, ?_⟩
  rw [show ((m : Nat) : Int).toNat = m from Int.toNat_natCast m]
  intro DD hD
  have hDst : DD ≠ st := Ne.symm (ne_of_none hx1 hD)
  refine lc_range (lo := 0) (n := m) (fun i H' => Btw st H1 H' ∧ DSt H' st ∧ Fst H1 H' st ∧ ∃ ws : List Nat, ws.length = i ∧ (∀ w ∈ ws, w < 7) ∧ H' DD = some (.lst (wVs ws))) ⟨.of ((Same.refl _).mt hD), hst1.put Btw.refl (fun x xs e => ⟨xs, e⟩) hst1 hD, fun x xs e => ⟨xs, by rw [upd_ne (Ne.symm hDst)]; exact e⟩, [], rfl, fun _ h => (nomatch h), upd_same⟩ (fun i H' hi hP => ?_) fun H' hP => ?_
  · obtain ⟨b2, hst2, f2, ws, hl, hw, hDl⟩ := hP
    walk_at "rd"
    refine ⟨rfl, ?_⟩
    walk_at "rd"
    refine ⟨st, 7, rfl, hst2, by decide, by decide, fun w2 H4 hw4 b4 hst4 f4 => ?_⟩
    have f14 : Fst H1 H4 st := fun x xs e => by
      obtain ⟨ys, e2⟩ := f2 x xs e
      exact f4 x ys e2
    refine ⟨_, b4 DD _ hDst hDl, by unfold wVs; rw [List.length_map, sizeLine_eq]; omega, fun c2 u hc hu => ?_, hst1.put (b2.trans b4) f14 hst4 hD, fun x xs e => ?_, ws ++ [w2], by rw [List.length_append, hl]; rfl, fun y hy => ?_, ?_⟩
    · rw [upd_ne (ne_of_none hu hD)]
      exact b4 _ _ hc (b2 _ _ hc hu)
    · obtain ⟨ys, e2⟩ := f14 x xs e
      exact ⟨ys, by rw [upd_ne (Ne.symm hDst)]; exact e2⟩
    · rcases List.mem_append.mp hy with hy | hy
      · exact hw y hy
      · rw [List.mem_singleton.mp hy]
        exact hw4
    · rw [upd_same]
      unfold wVs
      rw [List.map_append]
      rfl
  obtain ⟨b2, hst2, _, ws, hl, hw, hDl⟩ := hP
  obtain ⟨xs2, hx2⟩ := hst2.lst
  have hC2 := hC1.btw hbox hx1 b2
  have b02 := b1.trans b2
  walk_at "rd"
  refine ⟨DD, _, rfl, .inl (.inl (.inl hDl)), rfl, wVs_flat ws, ?_⟩
  have h0 : inV (.int 0) (wVs ws) = ws.any fun w => decide (w = 0) := inV_w 0 ws
  have h1 : inV (.int 1) (wVs ws) = ws.any fun w => decide (w = 1) := inV_w 1 ws
  have hfn := fnW_eq ws
  rw [← h0, ← h1] at hfn
  rw [if_neg Bool.false_ne_true]
  cases e0 : inV (.int 0) (wVs ws)
  case' true =>
    walk_at "rd"
    have hinf : true = fnW ws := by rw [← hfn, e0]; rfl
  case' false =>
    walk_at "rd"
    refine ⟨DD, _, rfl, .inl (.inl (.inl hDl)), rfl, wVs_flat ws, ?_⟩
    rw [if_neg Bool.false_ne_true]
    have hinf : inV (.int 1) (wVs ws) = fnW ws := by rw [← hfn, e0]; rfl
    walk_at "rd"
  all_goals
    refine ⟨st, c, vb, fa, ma, im, _, rfl, hst2, hbox, hC2, fun d0 fits p0 v0 H3 hcase hno0 hsz0 b3 hst3 hp0 hR0 => ?_⟩
    rw [hinf] at hcase
    refine RD.unp (.inl (.inl hp0)) rfl ?_
    walk_at "rd"
    unfold tFor
    walk_at "rd"
    have hD3 := b3 DD _ hDst hDl
    refine ⟨DD, rfl, ⟨_, .inl (.inl hD3)⟩, for_list (xs := wVs ws) (fun j σ H' => ∃ (d : D) (v : V) (o6 : Option V), σ = [some (.ref st), some vb, some (.bl im), some (.ref DD), some v, some (.bl fits), o6, none] ∧ Btw st H H' ∧ DSt H' st ∧ H' DD = some (.lst (wVs ws)) ∧ Rep K H' d v ∧ noO d = true ∧ sz d ≤ 60 + 40 * j ∧ NestOk c im (fnW ws) ws j d fits)
      ⟨d0, v0, none, rfl, b02.trans b3, hst3, hD3, hR0, hno0, by omega, fun P hP dp r hdp hr => hcase P hP dp r (by omega) (by rw [← hr]; exact (Bool.or_false r).symm)⟩ (fun j σ H' _ ⟨_, _, _, _, _, _, h, _⟩ => .inl (.inl h)) (fun j x σ H' hx hP => ?_) fun σ H' hP => ?_⟩
    · obtain ⟨d, v, o6, rfl, b, hs', hD', hR, hno, hsz, hok⟩ := hP
      have hx' : (ws.map fun w => V.int (w : Nat))[j]? = some x := hx
      rw [List.getElem?_map] at hx'
      obtain ⟨w1, hw1, rfl⟩ := Option.map_eq_some_iff.mp hx'
      have hw7 := hw w1 (List.mem_of_getElem? hw1)
      walk_at "rd"
      refine ⟨sl1, fun p1 n1 => ?_⟩
      have r1 : Rep K (upd H' p1 (.tup [.str "none"])) noneD (.ref p1) := rep_new n1 (rc rs rn)
      have s1 : Same H' (upd H' p1 (.tup [.str "none"])) := (Same.refl H').nw n1
      revert r1 s1
      generalize upd H' p1 (.tup [.str "none"]) = H4
      intro r1 s1
      walk_at "rd"
      refine ⟨sl2, fun p2 n2 => ?_⟩
      have r2 : Rep K (upd H4 p2 (.tup [.str "do", .ref p1])) (.t [.s "do", noneD]) (.ref p2) := rep_new n2 (rc rs (rc r1 rn))
      have s2 : Same H4 (upd H4 p2 (.tup [.str "do", .ref p1])) := (Same.refl H4).nw n2
      revert r2 s2
      generalize upd H4 p2 (.tup [.str "do", .ref p1]) = H5
      intro r2 s2
      walk_at "rd"
      refine ⟨sl2, fun p3 n3 => ?_⟩
      have r3 : Rep K (upd H5 p3 (.tup [.ref p2, v])) (.t [.t [.s "do", noneD], d]) (.ref p3) := rep_new n3 (rc r2 (rc ((hR.same s1).same s2) rn))
      have s3 : Same H5 (upd H5 p3 (.tup [.ref p2, v])) := (Same.refl H5).nw n3
      revert r3 s3
      generalize upd H5 p3 (.tup [.ref p2, v]) = H6
      intro r3 s3
      walk_at "rd"
      refine ⟨_, _, w1, rfl, hw7, r3, fun v' H7 hs7 r7 => ?_⟩
      walk_at "rd"
      have sAll := ((s1.trans s2).trans s3).trans hs7
      refine ⟨_, v', _, rfl, b.trans (.of sAll), hs'.same sAll, sAll _ _ hD', r7, noO_nest (by simp [noO, noOs, noneD, hno]) w1, ?_, hok.step hw1⟩
      have e1 := sz_nest (.t [.t [.s "do", noneD], d]) w1
      have e2 : sz (.t [.t [.s "do", noneD], d]) = sz d + 5 := by simp [sz, szs, noneD]; omega
      omega
    · obtain ⟨d, v, o6, rfl, b, hs', hD', hR, hno, hsz, hok⟩ := hP
      have hwl : (wVs ws).length = ws.length := List.length_map _
      rw [hwl] at hok hsz
      walk_at "rd"
      refine ⟨sl1, fun p1 n1 => ?_⟩
      have r1 : Rep K (upd H' p1 (.tup [.str "none"])) noneD (.ref p1) := rep_new n1 (rc rs rn)
      have s1 : Same H' (upd H' p1 (.tup [.str "none"])) := (Same.refl H').nw n1
      revert r1 s1
      generalize upd H' p1 (.tup [.str "none"]) = H4
      intro r1 s1
      walk_at "rd"
      refine ⟨sl2, fun p2 n2 => ?_⟩
      have r2 : Rep K (upd H4 p2 (.tup [.str "do", .ref p1])) (.t [.s "do", noneD]) (.ref p2) := rep_new n2 (rc rs (rc r1 rn))
      have s2 : Same H4 (upd H4 p2 (.tup [.str "do", .ref p1])) := (Same.refl H4).nw n2
      revert r2 s2
      generalize upd H4 p2 (.tup [.str "do", .ref p1]) = H5
      intro r2 s2
      walk_at "rd"
      refine ⟨sl2, fun p3 n3 => ?_⟩
      have r3 : Rep K (upd H5 p3 (.tup [v, .ref p2])) (.t [d, .t [.s "do", noneD]]) (.ref p3) := rep_new n3 (rc ((hR.same s1).same s2) (rc r2 rn))
      have s3 : Same H5 (upd H5 p3 (.tup [v, .ref p2])) := (Same.refl H5).nw n3
      revert r3 s3
      generalize upd H5 p3 (.tup [v, .ref p2]) = H6
      intro r3 s3
      walk_at "rd"
      refine ⟨sl2, fun p4 n4 => ?_⟩
      have s4 := (Same.refl H6).nw (o := .tup [.ref p3, .bl fits]) n4
      have sAll := ((s1.trans s2).trans s3).trans s4
      refine q _ fits p4 (.ref p3) _ (fun P hP => ?_) (by simp [noO, noOs, noneD, hno]) ?_ (b.trans (.of sAll)) (hs'.same sAll) upd_same (r3.same s4)
      · unfold okB
        rw [okI_block (by decide) (by show 2 ≤ 12; decide), all2, ok_doNone, Bool.and_true]
        exact hok P hP 1 P.im (by omega) (by rw [hP.pim, List.take_length])
      · have e2 : sz (.t [d, .t [.s "do", noneD]]) = sz d + 5 := by simp [sz, szs, noneD]
        omega
end
end SF

set_option Elab.async false
set_option linter.all false
set_option maxRecDepth 100000
set_option maxHeartbeats 4000000
/-! k04: the classes of the law -/
namespace SF
open PySem PySem.Spec PyProof.Rows L2 G0
def topC : Cl := ⟨none, "open", [("t", .t [.s "a"])], []⟩
def otherC : Cl := ⟨none, "closed", [("o", .t [.s "a"])], []⟩
def boxC (c : Cl) (b : D) : Cl := ⟨c.par, c.mark, c.flds, [("go", .t [.t [], b])]⟩
def rowsK (c : Cl) (b : D) : Cls8 := [("top", topC), ("box", boxC c b), ("other", otherC)]
theorem row_top {c : Cl} {b : D} : rowAt (rowsK c b) "top" = some topC := rfl
theorem row_box {c : Cl} {b : D} : rowAt (rowsK c b) "box" = some (boxC c b) := rfl
theorem row_other {c : Cl} {b : D} : rowAt (rowsK c b) "other" = some otherC := rfl
theorem row_some (c : Cl) (b : D) (z : Str) : (rowAt (rowsK c b) z).isSome = (decide (z = ("top" : Str)) || (decide (z = ("box" : Str)) || decide (z = ("other" : Str)))) := by
  unfold rowAt
  rw [Option.isSome_map]
  unfold rowsK
  by_cases h1 : z = ("top" : Str)
  · subst h1; rfl
  · rw [List.find?_cons_of_neg (by simpa using Ne.symm h1), decide_eq_false h1, Bool.false_or]
    by_cases h2 : z = ("box" : Str)
    · subst h2; rfl
    · rw [List.find?_cons_of_neg (by simpa using Ne.symm h2), decide_eq_false h2, Bool.false_or]
      by_cases h3 : z = ("other" : Str)
      · subst h3; rfl
      · rw [List.find?_cons_of_neg (by simpa using Ne.symm h3), decide_eq_false h3]
        rfl
theorem lp_box {c : Cl} {b : D} : LP (plOf (rowsK c b) (boxC c b)) c true := ⟨rfl, (Bool.true_and _).symm, fun z => (Bool.true_and _).symm, row_some c b⟩
theorem lp_body {c : Cl} {b : D} : LP (plBody (rowsK c b)) c false := ⟨rfl, rfl, fun z => rfl, row_some c b⟩
theorem all_map_fw (bs : List Str) (f : Str × D → Bool) (h : ∀ z ∈ bs, f (fw z) = true) : (bs.map fw).all f = true := by
  rw [List.all_map]
  exact List.all_eq_true.mpr h
theorem fields_ok {c : Cl} (h : BoxOk c) : fieldsB c.flds = true := by
  obtain ⟨bs, hs, e⟩ := h.flds
  have e' : c.flds = bs.map fw := e
  rw [e']
  unfold fieldsB
  have hl : bs.length ≤ 3 := hs.length_le
  have hn : ∀ z ∈ bs, nameS z = true := fun z hz => (show ∀ z ∈ (["h", "f", "g"] : List Str), nameS z = true by decide +kernel) z (hs.mem hz)
  rw [decide_eq_true (by rw [List.length_map]; exact hl), all_map_fw bs _ hn, all_map_fw bs _ fun z _ => (show namesD 1 4 (.t [.s "a", .s "b"]) = true by decide +kernel)]
  rfl
theorem box_class {c : Cl} {b : D} (h : BoxOk c) : classB (boxC c b) = true := by
  unfold classB
  have e1 : parB (boxC c b).par = true := by
    show parB c.par = true
    rcases h.par with e | e <;> rw [e]
    · rfl
    · decide +kernel
  have e2 : methsB (boxC c b).mths = true := by
    show (decide ((1 : Nat) ≤ 5) && ((nameS "go" && true) && (namesD 0 3 (.t []) && true))) = true
    decide +kernel
  rw [e1, show markB (boxC c b).mark = true from h.mark, show fieldsB (boxC c b).flds = true from (fields_ok h : fieldsB c.flds = true), e2]
  rfl
theorem up_top {c : Cl} {b : D} : up (rowsK c b) (some "top") = none := rfl
theorem up_box {c : Cl} {b : D} : up (rowsK c b) (some "box") = c.par := rfl
theorem up_other {c : Cl} {b : D} : up (rowsK c b) (some "other") = none := rfl
theorem ring_no {c : Cl} {b : D} (h : BoxOk c) : ringB (rowsK c b) = false := by
  have e1 : climb (rowsK c b) 3 (some "top") = none := by
    show up _ (up _ (up _ (some "top"))) = none
    rw [up_top]
    rfl
  have e3 : climb (rowsK c b) 3 (some "other") = none := by
    show up _ (up _ (up _ (some "other"))) = none
    rw [up_other]
    rfl
  have e2 : climb (rowsK c b) 3 (some "box") = none := by
    show up _ (up _ (up _ (some "box"))) = none
    rw [up_box]
    rcases h.par with e | e <;> rw [e]
    · rfl
    · rw [up_top]
      rfl
  show ((climb (rowsK c b) 3 (some "top")).isSome || ((climb (rowsK c b) 3 (some "box")).isSome || ((climb (rowsK c b) 3 (some "other")).isSome || false))) = false
  rw [e1, e2, e3]
  rfl
theorem classes_ok {c : Cl} {b : D} (h : BoxOk c) : classesB (rowsK c b) = true := by
  unfold classesB
  have e1 : (decide ((rowsK c b).length ≤ 8) && (rowsK c b).all fun r => nameS r.1) = true := by
    show (decide ((3 : Nat) ≤ 8) && (nameS "top" && (nameS "box" && (nameS "other" && true)))) = true
    decide +kernel
  have e2 : ((rowsK c b).all fun r => classB r.2) = true := by
    show (classB topC && (classB (boxC c b) && (classB otherC && true))) = true
    rw [box_class h, show classB topC = true by decide +kernel, show classB otherC = true by decide +kernel]
    rfl
  have e3 : ((rowsK c b).all fun r => amongB (rowsK c b) r.2) = true := by
    show (true && (amongB (rowsK c b) (boxC c b) && (true && true))) = true
    have : amongB (rowsK c b) (boxC c b) = true := by
      unfold amongB
      show (match c.par with | none => true | some z => _) = true
      rcases h.par with e | e <;> rw [e]
      rfl
    rw [this]
    rfl
  rw [e1, e2, e3, ring_no h]
  rfl
/-- what Program says of the law's classes -/
theorem wr_cases {c : Cl} {b body : D} {f1 f2 : Bool} {r : Option Str} (h : BoxOk c) (h1 : PlacedOk c true b f1) (h2 : PlacedOk c false body f2) (w : WR (rowsK c b) body r) :
    (f1 = false ∧ r = some ("box.go" : Str)) ∨ (f1 = true ∧ f2 = false ∧ r = some ("body" : Str)) ∨ (f1 = true ∧ f2 = true ∧ r = none) := by
  have k1 := h1 _ (lp_box (c := c) (b := b))
  have k2 := h2 _ (lp_body (c := c) (b := b))
  have clean : (∀ row ∈ rowsK c b, Clean (rowsK c b) row.2) → f1 = true := fun hc => by
    have := hc ("box", boxC c b) (by simp [rowsK]) ("go", .t [.t [], b]) (by simp [boxC])
    unfold badM at this
    rw [show blkOf (("go", D.t [.t [], b]) : Str × D).2 = b from rfl] at this
    dsimp only at this
    rw [k1] at this
    cases f1 with
    | true => rfl
    | false => cases this
  cases w with
  | cls e => rw [classes_ok h] at e; cases e
  | meth e row m F =>
    have hm := F.mem
    have hmm := F.mth
    have hb := F.bad
    unfold rowsK at hm
    rcases List.mem_cons.mp hm with rfl | hm
    · cases hmm
    · rcases List.mem_cons.mp hm with rfl | hm
      · rcases List.mem_cons.mp hmm with rfl | hmm
        · unfold badM at hb
          rw [show blkOf (("go", D.t [.t [], b]) : Str × D).2 = b from rfl] at hb
          dsimp only at hb
          rw [k1] at hb
          refine .inl ⟨?_, ?_⟩
          · cases f1 with
            | true => cases hb
            | false => rfl
          · show some (((Str.empty ++ ("box" : Str)) ++ ("." : Str)) ++ ("go" : Str)) = some ("box.go" : Str)
            decide +kernel
        · cases hmm
      · rcases List.mem_cons.mp hm with rfl | hm
        · cases hmm
        · cases hm
  | body e hc hb =>
    rw [k2] at hb
    exact .inr (.inl ⟨clean hc, hb, rfl⟩)
  | good e hc hb =>
    rw [k2] at hb
    exact .inr (.inr ⟨clean hc, hb, rfl⟩)
theorem sizes_ok {c : Cl} {b body : D} (h1 : sz b ≤ 1000) (h2 : sz body ≤ 1000) : Sizes (rowsK c b) body := by
  refine ⟨fun row hr m hm => ?_, by omega⟩
  unfold rowsK at hr
  rcases List.mem_cons.mp hr with rfl | hr
  · cases hm
  · rcases List.mem_cons.mp hr with rfl | hr
    · rcases List.mem_cons.mp hm with rfl | hm
      · show sz b ≤ _
        omega
      · cases hm
    · rcases List.mem_cons.mp hr with rfl | hr
      · cases hm
      · cases hr
/-! ### equal classes -/
theorem eqW_self {K : PySem.W.Frag} {H : Hp} {n : Nat} {v : V} (h : EqS v) : G3.EqW K H (n + 1) v v := by
  rcases h with h | ⟨a, h⟩
  · exact .inl ⟨rfl, h⟩
  · exact .inr (.inl ⟨a, h, h⟩)
theorem valV_of {kvs : List (Key × V)} (hn : (kvs.map (·.1)).Nodup) {q : Key × V} (hq : q ∈ kvs) : valV kvs q.1 = some q.2 := by
  induction kvs with
  | nil => cases hq
  | cons a r ih =>
    rw [List.map_cons, List.nodup_cons] at hn
    unfold valV
    rcases List.mem_cons.mp hq with e | hq
    · rw [e, List.find?_cons_of_pos (by simp)]
      rfl
    · rw [List.find?_cons_of_neg (by
        have : a.1 ≠ q.1 := fun e => hn.1 (by rw [e]; exact List.mem_map_of_mem hq)
        simpa using this)]
      exact ih hn.2 hq
theorem eq_items {K : PySem.W.Frag} {H : Hp} {fa fb : Addr} {ks : List (Key × V)} {n : Nat} (h1 : H fa = some (.dK ks)) (h2 : H fb = some (.dK ks)) (hn : (ks.map (·.1)).Nodup) (hs : ∀ q ∈ ks, EqS q.2) : EqR K H (G3.EqW K H (n + 1)) (.ref fa) (.ref fb) :=
  .inr ⟨fa, fb, ks, ks, rfl, rfl, h1, h2, rfl, fun q hq => ⟨q.2, valV_of hn hq, eqW_self (hs q hq)⟩⟩
theorem shp_eq {K : PySem.W.Frag} {H : Hp} {s : CSh} {v v' : V} {a c : Addr} (h : CShp K H s v a) (h' : CShp K H s v' c) : G3.EqW K H 3 v v' := by
  obtain ⟨t, fa, ma, e, hS, hf, hm, _⟩ := h.ex
  obtain ⟨t', fa', ma', e', hS', hf', hm', _⟩ := h'.ex
  refine .inr (.inr (.inr ⟨t, t', _, _, e, e', hS, hS', ?_⟩))
  exact .cons (.inl ⟨rfl, h.fp⟩) (.cons (.inl ⟨rfl, h.fm⟩) (.cons (.inr (.inr (.inl (eq_items hf hf' h.kf h.vf)))) (.cons (.inr (.inr (.inl (eq_items hm hm' h.km h.vm)))) .nil)))
theorem shd_eq {K : PySem.W.Frag} {H : Hp} {keys : List Key} {sh : List CSh} {a c : Addr} (hn : keys.Nodup) (h : ShD K H keys sh a) (h' : ShD K H keys sh c) : EqR K H (G3.EqW K H 3) (.ref a) (.ref c) := by
  obtain ⟨kvs, ha, hk, hl, hat⟩ := h.ex
  obtain ⟨kvs', ha', hk', hl', hat'⟩ := h'.ex
  refine .inr ⟨a, c, kvs, kvs', rfl, rfl, ha, ha', by omega, fun q hq => ?_⟩
  obtain ⟨i, hi, e⟩ := List.mem_iff_getElem.mp hq
  have hi' : i < kvs'.length := by omega
  have hi2 : i < sh.length := by omega
  have e1 : kvs[i].1 = kvs'[i].1 := by
    have a1 : (kvs.map (·.1))[i]? = some kvs[i].1 := by rw [List.getElem?_map, List.getElem?_eq_getElem hi]; rfl
    have a2 : (kvs'.map (·.1))[i]? = some kvs'[i].1 := by rw [List.getElem?_map, List.getElem?_eq_getElem hi']; rfl
    rw [hk, ← hk', a2] at a1
    exact (Option.some.inj a1).symm
  refine ⟨kvs'[i].2, ?_, ?_⟩
  · rw [← e, e1]
    exact valV_of (by rw [hk']; exact hn) (List.getElem_mem _)
  · rw [← e]
    exact shp_eq (hat i kvs[i] sh[i] (List.getElem?_eq_getElem hi) (List.getElem?_eq_getElem hi2)) (hat' i kvs'[i] sh[i] (List.getElem?_eq_getElem hi') (List.getElem?_eq_getElem hi2))
theorem tup_self {K : PySem.W.Frag} {H : Hp} {ds : List D} {vs : List V} (h : Reps K H ds vs) : Paired (G3.EqW K H 1) vs vs := by
  induction vs generalizing ds with
  | nil => exact .nil
  | cons v r ih =>
    cases ds with
    | nil => rw [reps_nil.mp h] at *; exact .nil
    | cons d ds =>
      obtain ⟨v1, r1, e, h1, h2⟩ := reps_cons.mp h
      cases e
      exact .cons (eqW_self (rep_self h1)) (ih h2)
end SF

set_option Elab.async false
set_option linter.all false
set_option maxRecDepth 100000
set_option maxHeartbeats 4000000
namespace RD
open PySem PySem.Spec PyProof.Rows L2 G0
theorem makeS {C : Addr} {sp : Sp} {E : L2.St → XK} {t : TA} {σ : L2.St} {H : Hp} {Q : VK} (h : t σ H fun vs H1 => ∀ x dx, H1 x = none → H1 dx = none → dx ≠ x → sp (.ref x :: (vs ++ [])) (upd (upd H1 dx (.own x)) x (.ins C dx [])) (fun v H2 => v = .non ∧ Q (.ref x) H2) (E σ)) : G3.tMakeS C sp [] E t σ H Q := h
theorem xf {a : Addr} {cls : Value} {d : Option Addr} {C : Addr} {f : Str} {te : TE} {σ : L2.St} {H : Hp} {Q : VK} (h : te σ H fun x H1 => x = .ref a ∧ cls = .ref C ∧ ∃ (dd : Addr) (fs : List (Str × V)) (v : V), d = some dd ∧ H1 dd = some (.xd fs) ∧ fs.lookup f = some v ∧ Q v H1) : tXf a cls d C f te σ H Q := h
theorem prop {C : Addr} {sp : Sp} {E : XK} {ta : TE} {σ : L2.St} {H : Hp} {Q : VK} (h : ta σ H fun x H1 => ∃ a dx fs, x = .ref a ∧ H1 a = some (.ins C dx fs) ∧ sp [.ref a] H1 Q E) : tProp C sp [] E ta σ H Q := h
theorem disp {trs : List (TE × TE)} {σ : L2.St} {H : Hp} {Q : VK} (h : ∀ p, H p = none → tPairs trs σ (upd H p (.dK [])) fun ps H2 => H2 p = some (.dK []) ∧ ∃ kvs : List (Key × V), ps = kvs.map (fun kv => (kV kv.1, kv.2)) ∧ kvs.length ≤ 15 ∧ Q (.ref p) (upd H2 p (.dK (mergeK [] kvs)))) : tDisp trs σ H Q := h
theorem pcons {tk tv : TE} {r : List (TE × TE)} {σ : L2.St} {H : Hp} {Q : List (V × V) → Hp → Prop} (h : tk σ H fun x H1 => tv σ H1 fun y H2 => tPairs r σ H2 fun ps H3 => Q ((x, y) :: ps) H3) : tPairs ((tk, tv) :: r) σ H Q := h
theorem pnil {σ : L2.St} {H : Hp} {Q : List (V × V) → Hp → Prop} (h : Q [] H) : tPairs [] σ H Q := h
end RD
namespace SF
open PySem PySem.Spec PyProof.Rows L2 G0
open C8 (Cal Mak Met pe_c pe_mk pe_mt pe_mt0 pe_gc)
/-- what the law asks of the two classes -/
structure LawC (P : Program) (w : World) (K : PySem.W.Frag) (mg : Str → Option Value) (base : Heap) (CP CB : Addr) : Prop where
  pg : PgC K CP
  gP : mg "Program" = some (.ref CP)
  prog : ∃ (f : Addr) (fd : FuncData), Mk K CP f ∧ FnOk P w K mg base (L2.CX P w) 8 f fd ["self", "classes", "body"] (spProg K CP CB) ∧ Binds K fd ["self", "classes", "body"] []
  get : ∃ (p g : Addr) (fd : FuncData), PropOf K CP "classes" p g ∧ FnOk P w K mg base CX0 3 g fd ["self"] (spGet K CP) ∧ Binds K fd ["self"] []
  gB : mg "BadProgram" = some (.ref CB)
  xf : XfC K CB
  no : PySem.W.findIn K (.ref CB) "part" = some none
  te : PySem.W.exmOne K (.ref CB) (.ref CB) = some true
theorem CRep.putA {K : PySem.W.Frag} {H : Hp} {c : Cl} {v : V} {fa ma a : Addr} {ks : List (Key × V)} {o : HO} (h : CRep K H c v fa ma) (ha : H a = some (.dK ks)) (h1 : fa ≠ a) (h2 : ma ≠ a) (n1 : noOs (c.flds.map (·.2)) = true) (n2 : noOs (c.mths.map (·.2)) = true) : CRep K (upd H a o) c v fa ma := by
  obtain ⟨p, fk, mk, e1, e2, e3, e4, e5, e6, e7⟩ := h
  exact ⟨p, fk, mk, e1, sqT_upd ha e2, by rw [upd_ne h1]; exact e3, e4.put ha n1, by rw [upd_ne h2]; exact e5, e6.put ha n2, e7⟩
theorem cls_go {K : PySem.W.Frag} {σ : L2.St} {H : Hp} {Q : VK} {z w mark : Str} (hz : z.length ≤ 1000) (hw : w.length ≤ 1000)
    (q : ∀ (H' : Hp) (v : V) (fa ma : Addr), Same H H' → H fa = none → H ma = none → CRep K H' ⟨none, mark, [(z, .t [.s w])], []⟩ v fa ma → Q v H') :
    tTup (tCons (tC .non) (tCons (tC (.str mark)) (tCons (tDisp [(tC (.str z), tTup (tCons (tC (.str w)) tNil))]) (tCons tDNewK tNil)))) σ H Q := by
  refine RD.tup (RD.cons (RD.c_ (RD.cons (RD.c_ (RD.cons (RD.disp fun t1 n1 => ?_))))))
  refine RD.pcons (RD.c_ (RD.tup (RD.cons (RD.c_ (RD.nil ⟨sl1, fun p2 n2 => ?_⟩)))))
  have s1 : Same H (upd H t1 (.dK [])) := (Same.refl H).nw n1
  have h1 : (upd H t1 (.dK [])) t1 = some (.dK []) := upd_same
  have s2 := s1.nw (o := .tup [.str w]) n2
  have r2 : Rep K (upd (upd H t1 (.dK [])) p2 (.tup [.str w])) (.t [.s w]) (.ref p2) := rep_new n2 (rc (rs hw) rn)
  have h2 : (upd (upd H t1 (.dK [])) p2 (.tup [.str w])) t1 = some (.dK []) := by rw [upd_ne (ne_of_none h1 n2)]; exact h1
  revert s2 r2 h2
  generalize upd (upd H t1 (.dK [])) p2 (.tup [.str w]) = H2
  intro s2 r2 h2
  refine RD.pnil ⟨h2, [(Sum.inr z, .ref p2)], rfl, (by show 1 ≤ 15; decide), ?_⟩
  rw [show mergeK ([] : List (Key × V)) [(Sum.inr z, V.ref p2)] = ([(Sum.inr z, .ref p2)] : List (Key × V)) from rfl]
  have s3 : Same H (upd H2 t1 (.dK [(Sum.inr z, .ref p2)])) := s2.mt n1
  have h3 : (upd H2 t1 (.dK [(Sum.inr z, .ref p2)])) t1 = some (.dK [(Sum.inr z, .ref p2)]) := upd_same
  have r3 : Rep K (upd H2 t1 (.dK [(Sum.inr z, .ref p2)])) (.t [.s w]) (.ref p2) := Rep.but (fun xs e => by rw [h2] at e; cases e) (fun o xs e => by rw [h2] at e; cases e) (fun b u hb hu => by rw [upd_ne hb]; exact hu) rfl r2
  revert s3 h3 r3
  generalize upd H2 t1 (.dK [(Sum.inr z, .ref p2)]) = H3
  intro s3 h3 r3
  refine RD.cons (fun t4 n4 => ?_)
  have s4 : Same H3 (upd H3 t4 (.dK [])) := (Same.refl H3).nw n4
  have h4 : (upd H3 t4 (.dK [])) t4 = some (.dK []) := upd_same
  revert s4 h4
  generalize upd H3 t4 (.dK []) = H4
  intro s4 h4
  refine RD.nil ⟨sl4, fun p np => ?_⟩
  have s5 : Same H4 (upd H4 p (.tup [.non, .str mark, .ref t1, .ref t4])) := (Same.refl H4).nw np
  refine q _ _ t1 t4 ((s3.trans s4).trans s5) n1 (none_of s3 n4) ⟨p, [(Sum.inr z, .ref p2)], [], rfl, .inl (.inl upd_same), s5 _ _ (s4 _ _ h3), ⟨rfl, rc ((r3.same s4).same s5) rn, fun y hy => ?_, (by decide : 1 ≤ 63), List.nodup_cons.mpr ⟨List.not_mem_nil, .nil⟩⟩, s5 _ _ h4, DRep.nil, Nat.zero_le _⟩
  rw [List.mem_singleton.mp hy]
  exact hz
def spLaw (K : PySem.W.Frag) : Sp := fun vs H Q _ => ∃ (a : Addr) (ns : List Int), vs = [.ref a] ∧ SqL K H a (ns.map V.int) ∧ ns.length ≤ 63 ∧ ∀ H', Q (.bl true) H'
section
variable {P : Program} {w : World} {K : PySem.W.Frag} {mg : Str → Option Value} {base : Heap}
local macro_rules | `(tactic| walk_at "rd1") => `(tactic| first
  | (with_reducible refine RD.seq ?_) | (with_reducible refine RD.next ?_) | (with_reducible refine RD.ifS ?_) | (with_reducible refine RD.ret ?_) | (with_reducible refine RD.retN ?_) | (with_reducible refine RD.drop ?_) | (with_reducible refine RD.asg ?_) | (with_reducible refine RD.gname ?_)
  | ((with_reducible apply RD.var); exact rfl) | (with_reducible refine RD.c_ ?_) | (with_reducible refine RD.op ?_) | (with_reducible refine RD.un ?_) | (with_reducible refine RD.cb ?_) | (with_reducible refine RD.cons ?_) | (with_reducible refine RD.nil ?_) | (with_reducible refine RD.tup ?_) | (with_reducible refine RD.lst ?_)
  | (with_reducible refine RD.B_ ?_) | (with_reducible refine RD.test ?_) | (with_reducible refine RD.exB ?_) | (with_reducible refine RD.exI ?_) | (with_reducible refine RD.and_ ?_) | (with_reducible refine RD.or_ ?_) | (with_reducible refine RD.not_ ?_) | (with_reducible refine RD.andV ?_) | (with_reducible refine RD.orV ?_) | (with_reducible refine RD.notV ?_) | (with_reducible refine RD.if_ ?_)
  | (with_reducible refine RD.ifT ?_) | (with_reducible refine RD.ifF ?_) | (with_reducible refine RD.ifNT ?_) | (with_reducible refine RD.ifNF ?_) | (with_reducible refine RD.yes ?_) | (with_reducible refine RD.sl ?_) | (with_reducible refine RD.noPart ?_) | (with_reducible refine RD.part ?_) | (with_reducible refine RD.i0 ?_) | (with_reducible refine RD.eqS ?_) | (with_reducible refine RD.eqI ?_) | (with_reducible refine RD.neS ?_) | (with_reducible refine RD.neI ?_)
  | (with_reducible refine RD.isN_n ?_) | (with_reducible refine RD.isN_r ?_) | (with_reducible refine RD.isN_s ?_) | (with_reducible refine RD.isN_b ?_) | (with_reducible refine RD.isN_i ?_) | (with_reducible refine RD.notN_n ?_) | (with_reducible refine RD.notN_r ?_) | (with_reducible refine RD.notN_s ?_)
  | (with_reducible refine RD.call ?_) | (with_reducible refine RD.make ?_) | (with_reducible refine RD.gcons ?_) | (with_reducible refine RD.gnil ?_) | (with_reducible refine RD.bm ?_) | (with_reducible refine RD.bm0 ?_) | (with_reducible refine RD.dget ?_) | (with_reducible refine RD.din ?_) | (with_reducible refine RD.tfld ?_) | (with_reducible refine RD.then_ ?_) | (with_reducible refine RD.chain ?_) | (with_reducible refine RD.itup ?_) | (with_reducible refine RD.ikeys ?_) | (with_reducible refine RD.ivals ?_) | (with_reducible refine RD.iitems ?_) | (with_reducible refine RD.lset ?_) | (with_reducible refine RD.ilist ?_) | ((with_reducible apply RD.aug); exact rfl))
local macro_rules | `(tactic| walk_at "rd") => `(tactic| repeat walk_at "rd1")

theorem sc__law_start : FnScope ["_law_script"] ["_law_script"] (defScope (topS 51)) := ⟨rfl, rfl, rfl, by decide +kernel, rfl, by decide +kernel, by decide +kernel⟩
theorem ok_lstart (T : TxtL K mg) {f : Addr} {fd : FuncData} (F : Fun K "_law_start" "_law_start" (topS 51) f fd) : FnOk P w K mg base CX0 1 f fd ["_law_script"] (spStart K) := by
  refine F.ok sc__law_start (fun vs H Q E h => ?_) (fun cdv A outer s H vs Q E hr h => ?_)
  · obtain ⟨a, ns, rfl, _⟩ := h
    rfl
  obtain ⟨a, ns, rfl, hS, hl, q⟩ := h
  refine ⟨_, (pss_one (ps_ret (pe_lst (pa_cons (pe_callTy call_list_of (by rfl) T.b_list (by decide +kernel) (pa_cons (pe_slice sl_list (pv 0) po_none (po_some pe_int)) pa_nil)) (pa_cons pe_int (pa_cons pe_int (pa_cons pe_int pa_nil))))))), ?_⟩
  walk_at "rd"
  refine ⟨a, _, rfl, hS, fun p1 n1 => ?_⟩
  walk_at "rd"
  refine ⟨p1, _, rfl, .inl (.inl (.inl upd_same)), fun cl n2 => ?_⟩
  walk_at "rd"
  refine ⟨sl4, fun st n3 => ?_⟩
  have s1 := (Same.refl H).nw (o := .lst (cutV (ns.map V.int) none (some 63))) n1
  have s2 := s1.nw (o := .lst (cutV (ns.map V.int) none (some 63))) n2
  have e : cutV (ns.map V.int) none (some 63) = (ns.take 63).map V.int := by
    have e1 : HT.sIx (ns.map V.int).length (ns.map V.int).length (some 63) = min 63 (ns.map V.int).length := HT.sIx_nat _ _ 63
    unfold cutV
    rw [HT.sIx_none, e1, List.drop_zero, Nat.sub_zero, List.map_take, List.length_map]
    by_cases h : 63 ≤ ns.length
    · rw [Nat.min_eq_left h]
    · rw [Nat.min_eq_right (by omega), List.take_of_length_le (by rw [List.length_map]; exact Nat.le_refl _), List.take_of_length_le (by rw [List.length_map]; omega)]
  refine q _ st (s2.nw n3) (none_of s2 n3) ⟨cl, ns.take 63, 0, 0, 5, upd_same, ?_, (fun e => by rw [e, upd_same] at n3; cases n3), (by rw [List.length_take]; exact Nat.min_le_left _ _), by decide, by decide, by decide⟩
  rw [upd_ne (fun e => by rw [e, upd_same] at n3; cases n3), upd_same, e]
theorem sc_law : FnScope ["_law_script", "_law_state", "_law_box_here", "_law_block", "_law_first", "_law_body", "_law_second", "_law_classes", "_law_part", "_law_made", "e"] ["_law_script"] (defScope (topS 60)) := ⟨rfl, rfl, rfl, by decide +kernel, rfl, by decide +kernel, by decide +kernel⟩
theorem ok_law (T : TxtL K mg) {CP CB : Addr} (L : LawC P w K mg base CP CB) (c__law_start : Cal P w K mg base 1 "_law_start" (spStart K) []) (c__law_box : Cal P w K mg base 3 "_law_box" (spBox K) []) (c__law_placed : Cal P w K mg base 5 "_law_placed" (spPlaced K) [])
    {f : Addr} {fd : FuncData} (F : Fun K "law" "law" (topS 60) f fd) : FnOk P w K mg base CX0 10 f fd ["_law_script"] (spLaw K) := by
  refine F.ok sc_law (fun vs H Q E h => ?_) (fun cdv A outer s H vs Q E hr h => ?_)
  · obtain ⟨a, ns, rfl, _⟩ := h
    rfl
  obtain ⟨a, ns, rfl, hS, hl, q⟩ := h
  obtain ⟨fP, fdP, MP, GP, bP⟩ := L.prog
  obtain ⟨pa, ga, fdG, PG, GG, bG⟩ := L.get
  have hu := hu_of hr
  have hu64 := hr.units
  have hr9 := hr.mono (show 9 ≤ 9 by decide)
  have hr3 := hr.mono (show 4 ≤ 9 by decide)
  refine ⟨_, (pss_cons (ps_set (i := 1) sc_law.nd rfl (Or.inl rfl) (pe_c c__law_start hr (by decide) (by rfl) (pa_cons (pv 0) pa_nil)))
      (pss_cons (ps_set (i := 2) sc_law.nd rfl (Or.inl rfl) (pe_c c__law_box hr (by decide) (by rfl) (pa_cons (pv 1) pa_nil)))
      (pss_cons (ps_asg (pe_c c__law_placed hr (by decide) (by rfl) (pa_cons (pv 1) (pa_cons (pv 2) (pa_cons pe_bl pa_nil)))) (pg_tup rfl (pgs_cons (pg_name (i := 3) sc_law.nd rfl (Or.inl rfl)) (pgs_cons (pg_name (i := 4) sc_law.nd rfl (Or.inl rfl)) pgs_nil))))
      (pss_cons (ps_asg (pe_c c__law_placed hr (by decide) (by rfl) (pa_cons (pv 1) (pa_cons (pv 2) (pa_cons pe_bl pa_nil)))) (pg_tup rfl (pgs_cons (pg_name (i := 5) sc_law.nd rfl (Or.inl rfl)) (pgs_cons (pg_name (i := 6) sc_law.nd rfl (Or.inl rfl)) pgs_nil))))
      (pss_cons (ps_dput hu (pe_ix ix_tup (pv 2) pe_int (fun _ _ => rfl)) pe_str (pe_tup (pa_cons (pe_tup pa_nil) (pa_cons (pv 3) pa_nil))) rfl)
      (pss_cons (ps_set (i := 7) sc_law.nd rfl (Or.inl rfl) (pe_disp (pps_cons pe_str (pe_tup (pa_cons pe_non (pa_cons pe_str (pa_cons (pe_disp (pps_cons pe_str (pe_tup (pa_cons pe_str pa_nil)) pps_nil) (by rfl) (by rfl) (fun z => by cases z) (by decide)) (pa_cons pe_dnewK pa_nil))))) (pps_cons pe_str (pv 2) (pps_cons pe_str (pe_tup (pa_cons pe_non (pa_cons pe_str (pa_cons (pe_disp (pps_cons pe_str (pe_tup (pa_cons pe_str pa_nil)) pps_nil) (by rfl) (by rfl) (fun z => by cases z) (by decide)) (pa_cons pe_dnewK pa_nil))))) pps_nil))) (by rfl) (by rfl) (fun z => by cases z) (by decide)))
      (pss_cons (ps_set (i := 8) sc_law.nd rfl (Or.inl rfl) pe_non)
      (pss_cons (ps_set (i := 9) sc_law.nd rfl (Or.inl rfl) pe_non)
      (pss_cons (ps_try_as (i := 10) (tb := fun W => tAsg (G3.tMakeS CP (spProg K CP CB) [] (WE W) (tCons (tVar 7) (tCons (tVar 5) tNil))) (gName 9)) (ts := fun a cls d => tAsg (tXf a cls d CB "part" (tVar 10)) (gName 8)) (Wout := fun _ _ _ _ => False) rfl rfl sc_law.nd rfl rfl ⟨rfl, by decide, .inl L.gB⟩ takes0
      (fun W pn xe tk _ => pss_one (ps_set (i := 9) sc_law.nd rfl (.inl rfl) (by exact (G3.pe_makeS MP GP hr9 (by rfl) L.gP bP .nil (fun σ => passAt tk σ) (pa_cons (pv 7) (pa_cons (pv 5) pa_nil))))))
      (fun a oe cls d pn hz hf => pss_one (ps_set (i := 8) sc_law.nd rfl (.inl rfl) (by exact (pe_xf L.xf L.no hz hf (pv 10))))))
      (pss_cons (ps_if (pt_not (pt_val (pv 4))) (pss_one (ps_ret (pe_and (pe_cmpR op_isN1 (pv 9) pe_non (nomark _)) (pe_one (pe_cmpR op_eq (pv 8) pe_str (nomark _)))))) pss_nil)
      (pss_cons (ps_if (pt_not (pt_val (pv 6))) (pss_one (ps_ret (pe_and (pe_cmpR op_isN1 (pv 9) pe_non (nomark _)) (pe_one (pe_cmpR op_eq (pv 8) pe_str (nomark _)))))) pss_nil)
      (pss_one (ps_ret (pe_and (pe_cmpR op_isN1 (pv 8) pe_non (nomark _)) (pe_and (pe_cmpR (G3.op_eqW hr.units) (pe_fld (pv 9) rfl) (pv 5) (nomark _)) (pe_one (pe_cmpR (G3.op_eqW hr.units) (pe_prop (pv 9) L.pg.cl PG GG hr3 bG .nil pass0 rfl) (pv 7) (nomark _)))))))))))))))))), ?_⟩
  walk_at "rd"
  refine ⟨a, ns, rfl, hS, hl, fun H1 st s1 nst hst1 => ?_⟩
  walk_at "rd"
  refine ⟨st, rfl, hst1, fun c vb fa ma H2 hbox b2 hst2 hC2 hne => ?_⟩
  obtain ⟨xs2, hx2⟩ := hst2.lst
  walk_at "rd"
  refine ⟨st, c, vb, fa, ma, true, rfl, hst2, hbox, hC2, fun blk f1 p1 v1 H3 ok1 no1 sz1 b3 hst3 hp1 hR1 => ?_⟩
  obtain ⟨xs3, hx3⟩ := hst3.lst
  have hC3 := hC2.btw hbox hx2 b3
  refine RD.unp (.inl (.inl hp1)) rfl ?_
  walk_at "rd"
  refine ⟨st, c, vb, fa, ma, false, rfl, hst3, hbox, hC3, fun bod f2 p2 v2 H4 ok2 no2 sz2 b4 hst4 hp2 hR2 => ?_⟩
  have hC4 := hC3.btw hbox hx3 b4
  have hR14 := Rep.btw hx3 b4 no1 hR1
  refine RD.unp (.inl (.inl hp2)) rfl ?_
  obtain ⟨pb, fk, mk, evb, hSb, hfa, hF, hma, hM, hpl⟩ := hC4
  have emk : mk = [] := List.eq_nil_of_length_eq_zero (by rw [hM.len, hbox.mths]; rfl)
  subst emk
  with_reducible refine RD.gcons ?_
  with_reducible refine RD.gname ?_
  with_reducible refine RD.gcons ?_
  with_reducible refine RD.gname ?_
  with_reducible refine RD.gnil ?_
  with_reducible refine RD.seq ?_
  with_reducible refine RD.dput ?_
  walk_at "rd"
  refine ⟨Nat.zero_le _, fun p5 n5 => ?_⟩
  have r5 : Rep K (upd H4 p5 (.tup [])) (.t []) (.ref p5) := rep_new n5 rn
  have s5 : Same H4 (upd H4 p5 (.tup [])) := (Same.refl H4).nw n5
  revert r5 s5
  generalize upd H4 p5 (.tup []) = H5
  intro r5 s5
  walk_at "rd"
  refine ⟨sl2, fun p6 n6 => ?_⟩
  have r6 : Rep K (upd H5 p6 (.tup [.ref p5, v1])) (.t [.t [], blk]) (.ref p6) := rep_new n6 (rc r5 (rc (hR14.same s5) rn))
  have s6 : Same H5 (upd H5 p6 (.tup [.ref p5, v1])) := (Same.refl H5).nw n6
  revert r6 s6
  generalize upd H5 p6 (.tup [.ref p5, v1]) = H6
  intro r6 s6
  have s46 := s5.trans s6
  walk_at "rd"
  subst evb
  refine RD.ixT (same_t s46 hSb) at3 ?_
  walk_at "rd"
  refine ⟨ma, _, rfl, DPut.k (k := Sum.inr "go") (s46 _ _ hma) (by rw [sizeLine_eq]; exact (by decide : 0 < 16777216)), ?_⟩
  have hma6 := s46 _ _ hma
  have nt6 : ∀ xs, H6 ma ≠ some (.tup xs) := fun xs e => by rw [hma6] at e; cases e
  have nf6 : ∀ o xs, H6 ma ≠ some (.frz o (.tup xs)) := fun o xs e => by rw [hma6] at e; cases e
  have b6 : Btw ma H6 (upd H6 ma (.dK [(Sum.inr "go", .ref p6)])) := fun b u hb hu => by rw [upd_ne hb]; exact hu
  have noM : noO (.t [.t [], blk]) = true := by simp [noO, noOs, no1]
  have hBox : CRep K (upd H6 ma (.dK [(Sum.inr "go", .ref p6)])) (boxC c blk) (.ref pb) fa ma := by
    refine ⟨pb, fk, [(Sum.inr "go", .ref p6)], rfl, sqT_but nt6 nf6 b6 (same_t s46 hSb), b6 _ _ hne (s46 _ _ hfa), (hF.lk (.of s46)).put hma6 hbox.noO, upd_same, ⟨rfl, rc (Rep.but nt6 nf6 b6 noM r6) rn, ?_, (by decide : 1 ≤ 63), ?_⟩, hpl⟩
    · intro q hq
      rw [List.mem_singleton.mp hq]
      exact (by decide +kernel : ("go" : Str).length ≤ 1000)
    · exact List.nodup_cons.mpr ⟨List.not_mem_nil, .nil⟩
  have hR2' : Rep K (upd H6 ma (.dK [(Sum.inr "go", .ref p6)])) bod v2 := Rep.but nt6 nf6 b6 no2 (hR2.same s46)
  have eput : putK ([] : List (Key × V)) (Sum.inr "go") (V.ref p6) = ([(Sum.inr "go", .ref p6)] : List (Key × V)) := rfl
  rw [eput]
  revert hBox hR2'
  generalize upd H6 ma (.dK [(Sum.inr "go", .ref p6)]) = H7
  intro hBox hR2'
  clear hC2 hC3 b2 b3 b4 hp1 hp2 hR1 hR2 hR14 r5 s5 r6 s6 s46 hma6 nt6 nf6 b6 hF hM hfa hma hSb n5 n6
  walk_at "rd"
  with_reducible refine RD.disp ?_
  intro a0 na0
  have s8 : Same H7 (upd H7 a0 (.dK [])) := (Same.refl H7).nw na0
  have ha8 : (upd H7 a0 (.dK [])) a0 = some (.dK []) := upd_same
  revert s8 ha8
  generalize upd H7 a0 (.dK []) = H8
  intro s8 ha8
  with_reducible refine RD.pcons ?_
  with_reducible refine RD.c_ ?_
  refine cls_go (K := K) (by decide +kernel) (by decide +kernel) fun H9 vT faT maT s9 nfT nmT hT => ?_
  with_reducible refine RD.pcons ?_
  with_reducible refine RD.c_ ?_
  refine RD.var rfl ?_
  with_reducible refine RD.pcons ?_
  with_reducible refine RD.c_ ?_
  refine cls_go (K := K) (by decide +kernel) (by decide +kernel) fun H10 vO faO maO s10 nfO nmO hO => ?_
  with_reducible refine RD.pnil ?_
  have ha9 := s9 _ _ ha8
  have ha10 := s10 _ _ ha9
  refine ⟨ha10, [(Sum.inr "top", vT), (Sum.inr "box", .ref pb), (Sum.inr "other", vO)], rfl, (by show 3 ≤ 15; decide), ?_⟩
  rw [show mergeK ([] : List (Key × V)) [(Sum.inr "top", vT), (Sum.inr "box", V.ref pb), (Sum.inr "other", vO)] = ([(Sum.inr "top", vT), (Sum.inr "box", .ref pb), (Sum.inr "other", vO)] : List (Key × V)) from rfl]
  have s710 := (s8.trans s9).trans s10
  have hT10 := (hT.same s10).putA (o := .dK [(Sum.inr "top", vT), (Sum.inr "box", .ref pb), (Sum.inr "other", vO)]) ha10 (Ne.symm (ne_of_none ha8 nfT)) (Ne.symm (ne_of_none ha8 nmT)) rfl rfl
  have hO10 := hO.putA (o := .dK [(Sum.inr "top", vT), (Sum.inr "box", .ref pb), (Sum.inr "other", vO)]) ha10 (Ne.symm (ne_of_none ha9 nfO)) (Ne.symm (ne_of_none ha9 nmO)) rfl rfl
  obtain ⟨_, fkB, mkB, eB, _, hfB, _, hmB, _⟩ := id hBox
  have nfB : fa ≠ a0 := ne_of_none hfB na0
  have nmB : ma ≠ a0 := ne_of_none hmB na0
  have hB10 := (hBox.same s710).putA (o := .dK [(Sum.inr "top", vT), (Sum.inr "box", .ref pb), (Sum.inr "other", vO)]) ha10 nfB nmB hbox.noO (by simp [boxC, noO, noOs, no1])
  have hb10 : Rep K (upd H10 a0 (.dK [(Sum.inr "top", vT), (Sum.inr "box", .ref pb), (Sum.inr "other", vO)])) bod v2 := Rep.but (fun xs e => by rw [ha10] at e; cases e) (fun o xs e => by rw [ha10] at e; cases e) (fun b u hb hu => by rw [upd_ne hb]; exact hu) no2 (hR2'.same s710)
  have ha11 : (upd H10 a0 (.dK [(Sum.inr "top", vT), (Sum.inr "box", .ref pb), (Sum.inr "other", vO)])) a0 = some (.dK [(Sum.inr "top", vT), (Sum.inr "box", .ref pb), (Sum.inr "other", vO)]) := upd_same
  revert hT10 hO10 hB10 hb10 ha11
  generalize upd H10 a0 (.dK [(Sum.inr "top", vT), (Sum.inr "box", .ref pb), (Sum.inr "other", vO)]) = H11
  intro hT10 hO10 hB10 hb10 ha11
  have hCs : CsRep K H11 (rowsK c blk) a0 [(Sum.inr "top", vT), (Sum.inr "box", .ref pb), (Sum.inr "other", vO)] := by
    refine ⟨rfl, fun i r kv e1 e2 => ?_, fun y hy => ?_, (by decide : 3 ≤ 63), (by show (["top", "box", "other"] : List Str).Nodup; decide +kernel)⟩
    · match i with
      | 0 =>
        cases e1; cases e2
        exact ⟨faT, maT, hT10, Ne.symm (ne_of_none ha8 nfT), Ne.symm (ne_of_none ha8 nmT)⟩
      | 1 =>
        cases e1; cases e2
        exact ⟨fa, ma, hB10, nfB, nmB⟩
      | 2 =>
        cases e1; cases e2
        exact ⟨faO, maO, hO10, Ne.symm (ne_of_none ha9 nfO), Ne.symm (ne_of_none ha9 nmO)⟩
      | i + 3 => cases e1
    · exact (show ∀ z ∈ (["top", "box", "other"] : List Str), z.length ≤ 1000 by decide +kernel) y.1 (by
        have : y.1 ∈ (rowsK c blk).map (·.1) := List.mem_map_of_mem hy
        exact this)
  clear hT hO hT10 hO10 hB10 hBox hfB hmB eB s8 s9 s10 s710 ha8 ha9 ha10 nfT nmT nfO nmO hR2' na0
  walk_at "rd"
  with_reducible refine RD.makeS ?_
  walk_at "rd"
  intro x dx nx nd nxd
  have s12 : Same H11 (upd (upd H11 dx (.own x)) x (.ins CP dx [])) := ((Same.refl H11).nw nd).nw (by rw [upd_ne (Ne.symm nxd)]; exact nx)
  have hx12 : (upd (upd H11 dx (.own x)) x (.ins CP dx [])) x = some (.ins CP dx []) := upd_same
  revert s12 hx12
  generalize upd (upd H11 dx (.own x)) x (.ins CP dx []) = H12
  intro s12 hx12
  have ha12 := s12 _ _ ha11
  have hCs12 := hCs.same s12
  have hb12 := hb10.same s12
  refine ⟨x, dx, a0, rowsK c blk, _, v2, bod, rfl, hx12, ha12, hCs12, hb12, sizes_ok sz1 sz2, fun z H' d wr s' hd hxd => ?_, fun H' cc sh wr kb hsh hsh' hx' => ⟨rfl, ?_⟩⟩
  · refine ⟨true, L.te, fun _ a1 ha1 => ?_, fun q => Bool.noConfusion q⟩
    walk_at "rd"
    with_reducible refine RD.xf ?_
    walk_at "rd"
    refine ⟨rfl, rfl, d, _, _, rfl, hxd, rfl, ?_⟩
    rcases wr_cases hbox ok1 ok2 wr with ⟨rfl, e⟩ | ⟨rfl, rfl, e⟩ | ⟨_, _, e⟩
    · obtain rfl := Option.some.inj e
      walk_at "rd"
      rw [decide_eq_true rfl]
      exact q _
    · obtain rfl := Option.some.inj e
      walk_at "rd"
      rw [decide_eq_true rfl]
      exact q _
    · cases e
  · rcases wr_cases hbox ok1 ok2 wr with ⟨_, e⟩ | ⟨_, _, e⟩ | ⟨rfl, rfl, _⟩
    · cases e
    · cases e
    obtain ⟨ds, rfl⟩ : ∃ ds, bod = .t ds := by
      have k2 := ok2 _ (lp_body (c := c) (b := blk))
      cases bod with
      | t ds => exact ⟨ds, rfl⟩
      | s y => cases k2
      | o => cases k2
    have hbx : Rep K H' (.t ds) v2 := Rep.but (fun xs e => by rw [hx12] at e; cases e) (fun o xs e => by rw [hx12] at e; cases e) kb no2 hb12
    have hax : ShD K H' _ sh a0 := hsh.but hx12 kb
    obtain ⟨pb2, vs2, rfl, hSb2, hRs2⟩ := rep_t.mp hbx
    walk_at "rd"
    refine ⟨x, CP, dx, _, _, rfl, hx', L.pg.cl, L.pg.n2, rfl, ?_⟩
    walk_at "rd"
    refine ⟨1, by decide, .inr ⟨pb2, pb2, vs2, vs2, rfl, rfl, hSb2, hSb2, tup_self hRs2⟩, ?_⟩
    walk_at "rd"
    with_reducible refine RD.prop ?_
    walk_at "rd"
    refine ⟨x, dx, _, rfl, hx', ⟨x, dx, cc, _, _, sh, rfl, hx', hsh', hCs12.knd, (by show 3 ≤ 63; decide), fun H13 c' s13 nc hc' => ?_⟩⟩
    walk_at "rd"
    exact ⟨3, by decide, .inl (shd_eq hCs12.knd hc' (hax.same s13)), q _⟩
end
end SF

set_option Elab.async false
set_option linter.all false
set_option maxRecDepth 100000
set_option maxHeartbeats 0
/-! the Hook of the head -/
namespace HK
open PySem PySem.Spec PyProof.Rows L2 He G5
def getA (K : PySem.W.Frag) : Addr := match PySem.W.recIn K (ma K (ga K "Program") "classes") "property" with
  | some (.ref g :: _) => g
  | _ => 0
def fn0 : List FnQ := [⟨fun K => ga K "is_name", "is_name", "is_name", defArgs (SF.topS 2), defBody (SF.topS 2), defScope (SF.topS 2), []⟩, ⟨fun K => ga K "is_names", "is_names", "is_names", defArgs (SF.topS 3), defBody (SF.topS 3), defScope (SF.topS 3), []⟩, ⟨fun K => ga K "is_name_dict", "is_name_dict", "is_name_dict", defArgs (SF.topS 4), defBody (SF.topS 4), defScope (SF.topS 4), []⟩, ⟨fun K => ga K "is_block", "is_block", "is_block", defArgs (SF.topS 16), defBody (SF.topS 16), defScope (SF.topS 16), []⟩, ⟨fun K => ga K "_inner_parts", "_inner_parts", "_inner_parts", defArgs (SF.topS 17), defBody (SF.topS 17), defScope (SF.topS 17), []⟩, ⟨fun K => ga K "_is_leaf", "_is_leaf", "_is_leaf", defArgs (SF.topS 18), defBody (SF.topS 18), defScope (SF.topS 18), []⟩, ⟨fun K => ga K "_statements", "_statements", "_statements", defArgs (SF.topS 19), defBody (SF.topS 19), defScope (SF.topS 19), []⟩, ⟨fun K => ga K "_form_parts", "_form_parts", "_form_parts", defArgs (SF.topS 20), defBody (SF.topS 20), defScope (SF.topS 20), []⟩, ⟨fun K => ga K "form_of", "form_of", "form_of", defArgs (SF.topS 21), defBody (SF.topS 21), defScope (SF.topS 21), []⟩, ⟨fun K => ga K "_may_stand", "_may_stand", "_may_stand", defArgs (SF.topS 22), defBody (SF.topS 22), defScope (SF.topS 22), []⟩]
def fn1 : List FnQ := [⟨fun K => ga K "is_class_form", "is_class_form", "is_class_form", defArgs (SF.topS 27), defBody (SF.topS 27), defScope (SF.topS 27), []⟩, ⟨fun K => ga K "bad_method", "bad_method", "bad_method", defArgs (SF.topS 28), defBody (SF.topS 28), defScope (SF.topS 28), []⟩, ⟨fun K => ga K "copied_class", "copied_class", "copied_class", defArgs (SF.topS 29), defBody (SF.topS 29), defScope (SF.topS 29), []⟩, ⟨fun K => ga K "_is_fields", "_is_fields", "_is_fields", defArgs (SF.topS 30), defBody (SF.topS 30), defScope (SF.topS 30), []⟩, ⟨fun K => ga K "_is_methods", "_is_methods", "_is_methods", defArgs (SF.topS 31), defBody (SF.topS 31), defScope (SF.topS 31), []⟩, ⟨fun K => ga K "_is_method", "_is_method", "_is_method", defArgs (SF.topS 32), defBody (SF.topS 32), defScope (SF.topS 32), []⟩, ⟨fun K => ga K "copied", "copied", "copied", defArgs (SF.topS 35), defBody (SF.topS 35), defScope (SF.topS 35), []⟩, ⟨fun K => ga K "_copy", "_copy", "_copy", defArgs (SF.topS 36), defBody (SF.topS 36), defScope (SF.topS 36), []⟩, ⟨fun K => ga K "_has_few_parts", "_has_few_parts", "_has_few_parts", defArgs (SF.topS 37), defBody (SF.topS 37), defScope (SF.topS 37), []⟩, ⟨fun K => ga K "_copied_classes", "_copied_classes", "_copied_classes", defArgs (SF.topS 44), defBody (SF.topS 44), defScope (SF.topS 44), []⟩]
def fn2 : List FnQ := [⟨fun K => ga K "_wrong_part", "_wrong_part", "_wrong_part", defArgs (SF.topS 45), defBody (SF.topS 45), defScope (SF.topS 45), []⟩, ⟨fun K => ga K "_is_classes", "_is_classes", "_is_classes", defArgs (SF.topS 46), defBody (SF.topS 46), defScope (SF.topS 46), []⟩, ⟨fun K => ga K "_has_parent_among", "_has_parent_among", "_has_parent_among", defArgs (SF.topS 47), defBody (SF.topS 47), defScope (SF.topS 47), []⟩, ⟨fun K => ga K "_has_ring", "_has_ring", "_has_ring", defArgs (SF.topS 48), defBody (SF.topS 48), defScope (SF.topS 48), []⟩, ⟨fun K => ga K "_law_mix", "_law_mix", "_law_mix", defArgs (SF.topS 50), defBody (SF.topS 50), defScope (SF.topS 50), []⟩, ⟨fun K => ga K "_law_start", "_law_start", "_law_start", defArgs (SF.topS 51), defBody (SF.topS 51), defScope (SF.topS 51), []⟩, ⟨fun K => ga K "_law_draw", "_law_draw", "_law_draw", defArgs (SF.topS 52), defBody (SF.topS 52), defScope (SF.topS 52), []⟩, ⟨fun K => ga K "_law_box", "_law_box", "_law_box", defArgs (SF.topS 53), defBody (SF.topS 53), defScope (SF.topS 53), []⟩, ⟨fun K => ga K "_law_simple", "_law_simple", "_law_simple", defArgs (SF.topS 54), defBody (SF.topS 54), defScope (SF.topS 54), []⟩, ⟨fun K => ga K "_law_simple_fits", "_law_simple_fits", "_law_simple_fits", defArgs (SF.topS 55), defBody (SF.topS 55), defScope (SF.topS 55), []⟩]
def fn3 : List FnQ := [⟨fun K => ga K "_law_with", "_law_with", "_law_with", defArgs (SF.topS 56), defBody (SF.topS 56), defScope (SF.topS 56), []⟩, ⟨fun K => ga K "_law_case", "_law_case", "_law_case", defArgs (SF.topS 57), defBody (SF.topS 57), defScope (SF.topS 57), []⟩, ⟨fun K => ga K "_law_nest", "_law_nest", "_law_nest", defArgs (SF.topS 58), defBody (SF.topS 58), defScope (SF.topS 58), []⟩, ⟨fun K => ga K "_law_placed", "_law_placed", "_law_placed", defArgs (SF.topS 59), defBody (SF.topS 59), defScope (SF.topS 59), []⟩, ⟨fun K => ga K "law", "law", "law", defArgs (SF.topS 60), defBody (SF.topS 60), defScope (SF.topS 60), []⟩, ⟨fun K => ma K (ga K "Place") "__init__", "__init__", "Place.__init__", defArgs (inClass (SF.topS 15) 0), defBody (inClass (SF.topS 15) 0), defScope (inClass (SF.topS 15) 0), []⟩, ⟨fun K => ma K (ga K "Program") "__init__", "__init__", "Program.__init__", defArgs (inClass (SF.topS 43) 0), defBody (inClass (SF.topS 43) 0), defScope (inClass (SF.topS 43) 0), []⟩, ⟨getA, "classes", "Program.classes", defArgs (inClass (SF.topS 43) 1), defBody (inClass (SF.topS 43) 1), defScope (inClass (SF.topS 43) 1), []⟩, ⟨fun K => ma K (ga K "BadProgram") "__init__", "__init__", "BadProgram.__init__", defArgs (inClass (SF.topS 40) 0), defBody (inClass (SF.topS 40) 0), defScope (inClass (SF.topS 40) 0), ["__class__"]⟩]
def fn : List FnQ := fn0 ++ fn1 ++ fn2 ++ fn3
def fa0 : List Fa := [.glo "is_name", .glo "is_names", .glo "is_name_dict", .glo "SIMPLES", .glo "CALLS", .glo "TESTS", .glo "STATEMENTS", .glo "Place", .glo "is_block", .glo "_inner_parts", .glo "_is_leaf", .glo "_statements", .glo "_form_parts", .glo "form_of", .glo "_may_stand", .glo "is_class_form", .glo "bad_method", .glo "copied_class", .glo "_is_fields", .glo "_is_methods", .glo "_is_method", .glo "copied", .glo "_copy", .glo "_has_few_parts", .glo "StandError"]
def fa1 : List Fa := [.glo "BadProgram", .glo "Program", .glo "_copied_classes", .glo "_wrong_part", .glo "_is_classes", .glo "_has_parent_among", .glo "_has_ring", .glo "_law_mix", .glo "_law_start", .glo "_law_draw", .glo "_law_box", .glo "_law_simple", .glo "_law_simple_fits", .glo "_law_with", .glo "_law_case", .glo "_law_nest", .glo "_law_placed", .glo "law", .free "len", .free "isinstance", .free "str", .free "tuple", .free "dict", .free "all", .free "set"]
def fa2 : List Fa := [.free "zip", .free "range", .free "sorted", .free "list", .free "super", .free "int", .int "MOST_LETTERS" 8, .int "MOST_STATEMENTS" 12, .int "MOST_BLOCKS" 8, .int "MOST_TESTS" 3, .int "MOST_THINGS" 3, .int "MOST_PARAMS" 3, .int "MOST_FIELDS" 3, .int "MOST_WORDS" 4, .int "MOST_METHODS" 5, .int "MOST_PARTS" 100000, .int "MOST_CLASSES" 8, .cls "Place", .noat "Place" "new_classes", .noat "Place" "own_fields", .noat "Place" "in_method", .noat "Place" "has_parent", .mkr "Place", .cls "Program", .noat "Program" "_classes"]
def fa3 : List Fa := [.noat "Program" "body", .mkr "Program", .exm "BadProgram" "BadProgram" true]
def fa : List Fa := fa0 ++ fa1 ++ fa2 ++ fa3
def loose0 : List Str := ["MOST_LETTERS", "is_name", "is_names", "is_name_dict", "MOST_STATEMENTS", "MOST_BLOCKS", "MOST_TESTS", "MOST_THINGS", "MOST_PARAMS", "SIMPLES", "CALLS", "TESTS", "STATEMENTS", "Place", "is_block", "_inner_parts", "_is_leaf", "_statements", "_form_parts", "form_of", "_may_stand", "MOST_FIELDS", "MOST_WORDS", "MOST_METHODS", "is_class_form", "bad_method", "copied_class", "_is_fields", "_is_methods", "_is_method"]
def loose1 : List Str := ["MOST_PARTS", "copied", "_copy", "_has_few_parts", "StandError", "BadProgram", "MOST_CLASSES", "Program", "_copied_classes", "_wrong_part", "_is_classes", "_has_parent_among", "_has_ring", "_law_mix", "_law_start", "_law_draw", "_law_box", "_law_simple", "_law_simple_fits", "_law_with", "_law_case", "_law_nest", "_law_placed"]
def loose : List Str := loose0 ++ loose1
def ts : List Tab := [(fun K => ga K "STATEMENTS", SF.tStm.map (·.1)), (fun K => ga K "TESTS", SF.tTests.map (·.1)), (fun K => ga K "CALLS", SF.tCalls.map (·.1)), (fun K => ga K "SIMPLES", SF.tSim.map (·.1))]
abbrev PR : Program := PySem.Challenge.pw_standsfor_k04_places
def supB (K : PySem.W.Frag) (C f : Addr) : Bool := match K.lookup f with
  | some ⟨_, _, .func fd, _⟩ => (match fd.code, fd.closure with
    | .ref c, [(_, cc)] => (match K.lookup c, K.lookup cc with
      | some ⟨_, _, .fields vs, _⟩, some ⟨_, _, .cell (some (.ref C')), _⟩ => decide (C' = C) && (match (vs[2]? : Option Value) with
        | some (.str file _) => (PR.main.file : Str) == file
        | _ => false)
      | _, _ => false)
    | _, _ => false)
  | _ => false
def oB (a b : Option Bool) : Bool := decide (a = b)
def oV (a b : Option Value) : Bool := decide (a = b)
def ex (K : PySem.W.Frag) : Bool := (tabB K (ga K "STATEMENTS") SF.tStm && (tabB K (ga K "TESTS") SF.tTests && (tabB K (ga K "CALLS") SF.tCalls && tabB K (ga K "SIMPLES") SF.tSim))) &&
  ((eqO (PySem.W.findIn K (.ref (ga K "Program")) "classes") (some (some (.ref (ma K (ga K "Program") "classes")))) && (eqO (PySem.W.specialIn K (.ref (ma K (ga K "Program") "classes")) "__get__") (some (some (.builtin "property.__get__"))) && (oB (PySem.W.takesIn K (.ref (ma K (ga K "Program") "classes"))) (some true) && (match PySem.W.recIn K (ma K (ga K "Program") "classes") "property" with
    | some (.ref _ :: _) => true
    | _ => false)))) &&
  ((excB K (ga K "BadProgram") && (eqO (PySem.W.findIn K (.ref (ga K "BadProgram")) "__setattr__") (some (some (.builtin "object.__setattr__"))) && (oB (PySem.W.subIn K (.ref (ga K "BadProgram")) (.type "BaseException")) (some true) && (oV (PySem.W.typeIn K (.ref (ga K "BadProgram"))) (some (.type "type")) && (PySem.W.keepIn K (.ref (ga K "BadProgram")) && (eqO (PySem.W.findIn K (.ref (ga K "BadProgram")) "__init__") (some (some (.ref (ma K (ga K "BadProgram") "__init__")))) && (oV (PySem.W.typeIn K (.ref (ma K (ga K "BadProgram") "__init__"))) (some (.type "function")) && (eqO (PySem.W.findIn K (.ref (ga K "BadProgram")) "part") (some none) && xfB K (ga K "BadProgram"))))))))) &&
  (supB K (ga K "BadProgram") (ma K (ga K "BadProgram") "__init__") && (oB (PySem.W.mroIn K (ga K "BadProgram") (.ref (ga K "BadProgram"))) (some true) && (eqO (PySem.W.nsIn K cStatics "thirdparty.any") (some none) && (eqO (PySem.W.ks_superIn K (ga K "BadProgram") (ga K "BadProgram") "__init__") (some (some (.builtin "ValueError.__init__"))) && oB (PySem.W.subIn K (.ref (ga K "BadProgram")) (.type "ValueError")) (some true)))))))
abbrev AlY : Type := Bool × (List FnS × List (Option (List (Option (Str × Int)))))
def obsY (K : PySem.W.Frag) : AlY := ((fa.all fun f => f.ok K) && ((fn.all fun d => d.ok K) && ex K), (fn.map fun d => fnQ K (d.addr K), ts.map fun t => dicW K (t.1 K)))
def valY (w : World) : AlY := (true, (fn.map FnQ.val, ts.map fun t => some (keysIn w.params t.2)))
def frY (g : Addr → Option Obj) : PySem.W.Frag := frG g (cStatics :: asD g 5)
def hk : PySem.W.Hook where
  α := AlY
  obs := fun s => obsY (frY s.heap.get?)
  val := fun w => valY w
  says := fun w h => ∃ K : PySem.W.Frag, K.In h ∧ obsY K = valY w
  of := fun _ _ e => ⟨_, frG_in, e⟩
  keeps := fun _ _ _ ⟨K, hK, c⟩ k => ⟨K, PySem.W.Frag.In.keeps hK k, c⟩
def ob (s : PySem.W.SharedT) : AlY := obsY (frY (HandSHeadRun.getT s))
theorem ob_eq (s : PySem.W.SharedT) : ob s = hk.obs s.abs := by
  have e : HandSHeadRun.getT s = s.abs.heap.get? := funext (HandSHeadRun.getT_eq s)
  show obsY (frY (HandSHeadRun.getT s)) = obsY (frY s.abs.heap.get?)
  rw [e]
abbrev R : PySem.W.OpenRow := PySem.W.OpenLaw.row PySem.Challenge.rw_standsfor_k04_places
end HK

set_option Elab.async false
set_option linter.all false
set_option maxRecDepth 100000
set_option maxHeartbeats 0
namespace HK
open PySem PySem.Spec PyProof.Rows L2 He G5
section
variable {K : PySem.W.Frag} {w : World} {h : Heap} {mg : Str → Option Value}
theorem parts (c : obsY K = valY w) : (fa.all fun f => f.ok K) = true ∧ (fn.all fun d => d.ok K) = true ∧ ex K = true ∧ (fn.map fun d => fnQ K (d.addr K)) = fn.map FnQ.val ∧ (ts.map fun t => dicW K (t.1 K)) = ts.map fun t => some (keysIn w.params t.2) := by
  have e1 : ((fa.all fun f => f.ok K) && ((fn.all fun d => d.ok K) && ex K)) = true := congrArg (fun z : AlY => z.1) c
  obtain ⟨h1, h2⟩ := ba e1
  obtain ⟨h3, h4⟩ := ba h2
  exact ⟨h1, h3, h4, congrArg (fun z : AlY => z.2.1) c, congrArg (fun z : AlY => z.2.2) c⟩
theorem fact (c : obsY K = valY w) (i : Nat) (f : Fa) (h : fa[i]? = some f := by rfl) : f.ok K = true := List.all_eq_true.mp (parts c).1 f (List.mem_of_getElem? h)
theorem defAt (c : obsY K = valY w) (i : Nat) {d : FnQ} (h : fn[i]? = some d := by rfl) : fnQ K (d.addr K) = d.val ∧ d.ok K = true := by
  obtain ⟨_, h2, _, h4, _⟩ := parts c
  have e2 : (fn.map fun d => fnQ K (d.addr K))[i]? = (fn.map FnQ.val)[i]? := by rw [h4]
  rw [List.getElem?_map, List.getElem?_map, h] at e2
  exact ⟨Option.some.inj e2, List.all_eq_true.mp h2 d (List.mem_of_getElem? h)⟩
theorem tabAt (c : obsY K = valY w) (i : Nat) {t : Tab} (h : ts[i]? = some t := by rfl) : dicW K (t.1 K) = some (keysIn w.params t.2) := by
  obtain ⟨_, _, _, _, h5⟩ := parts c
  have e2 : (ts.map fun t => dicW K (t.1 K))[i]? = (ts.map fun t => some (keysIn w.params t.2))[i]? := by rw [h5]
  rw [List.getElem?_map, List.getElem?_map, h] at e2
  exact Option.some.inj e2
theorem intF {x : Str} {i : Int} (h : ∃ t, mg x = some (.int i t)) : SF.Int1 mg x i := by
  obtain ⟨t, e⟩ := h
  exact ⟨_, e, ⟨t, rfl⟩⟩
theorem codeIn_ref {K : PySem.W.Frag} {cd : Value} {q : Str} (e : PySem.W.codeIn K cd q = true) : ∃ c, cd = .ref c := by
  unfold PySem.W.codeIn at e
  split at e
  · exact ⟨_, rfl⟩
  · cases e
theorem facts (X : K.In h) (G : h.Ns mainGlobals mg) (c : obsY K = valY w) : ∃ fd : FuncData, (∀ (s : Shared) (u : Value), BindsTo s fd ⟨[u], []⟩ [("_law_script", u)]) ∧ ∀ base : Heap, K.In base → base.Ns mainGlobals mg → FnOk PR w K mg base CX0 10 (ga K "law") fd ["_law_script"] (SF.spLaw K) := by
  have T : SF.TxtL K mg := { b_len := free_ok X G (fact c 43 (.free "len")), b_isinstance := free_ok X G (fact c 44 (.free "isinstance")), b_str := free_ok X G (fact c 45 (.free "str")), b_tuple := free_ok X G (fact c 46 (.free "tuple")), b_dict := free_ok X G (fact c 47 (.free "dict")), b_all := free_ok X G (fact c 48 (.free "all")), b_set := free_ok X G (fact c 49 (.free "set")), b_zip := free_ok X G (fact c 50 (.free "zip")), b_range := free_ok X G (fact c 51 (.free "range")), b_sorted := free_ok X G (fact c 52 (.free "sorted")), b_list := free_ok X G (fact c 53 (.free "list")), b_super := free_ok X G (fact c 54 (.free "super")), b_int := free_ok X G (fact c 55 (.free "int")), g_MOST_LETTERS := intF (int_ok X G (fact c 56 (.int "MOST_LETTERS" 8))), g_MOST_STATEMENTS := intF (int_ok X G (fact c 57 (.int "MOST_STATEMENTS" 12))), g_MOST_BLOCKS := intF (int_ok X G (fact c 58 (.int "MOST_BLOCKS" 8))), g_MOST_TESTS := intF (int_ok X G (fact c 59 (.int "MOST_TESTS" 3))), g_MOST_THINGS := intF (int_ok X G (fact c 60 (.int "MOST_THINGS" 3))), g_MOST_PARAMS := intF (int_ok X G (fact c 61 (.int "MOST_PARAMS" 3))), g_MOST_FIELDS := intF (int_ok X G (fact c 62 (.int "MOST_FIELDS" 3))), g_MOST_WORDS := intF (int_ok X G (fact c 63 (.int "MOST_WORDS" 4))), g_MOST_METHODS := intF (int_ok X G (fact c 64 (.int "MOST_METHODS" 5))), g_MOST_PARTS := intF (int_ok X G (fact c 65 (.int "MOST_PARTS" 100000))), g_MOST_CLASSES := intF (int_ok X G (fact c 66 (.int "MOST_CLASSES" 8))) }
  have plc : SF.PlC K (ga K "Place") := ⟨cls_ok (fact c 67 (.cls "Place")), noat_ok (fact c 68 (.noat "Place" "new_classes")), noat_ok (fact c 69 (.noat "Place" "own_fields")), noat_ok (fact c 70 (.noat "Place" "in_method")), noat_ok (fact c 71 (.noat "Place" "has_parent"))⟩
  have pgc : SF.PgC K (ga K "Program") := ⟨cls_ok (fact c 73 (.cls "Program")), noat_ok (fact c 74 (.noat "Program" "_classes")), noat_ok (fact c 75 (.noat "Program" "body"))⟩
  obtain ⟨xT, x0⟩ := ba (parts c).2.2.1
  obtain ⟨xP, x1⟩ := ba x0
  obtain ⟨xA, xS⟩ := ba x1
  obtain ⟨v1, xT⟩ := ba xT
  obtain ⟨v2, xT⟩ := ba xT
  obtain ⟨v3, v4⟩ := ba xT
  have t1 : SF.FTab K w mg "STATEMENTS" SF.tStm := tab_ok (glo_ok X G (fact c 6 (.glo "STATEMENTS"))) (tabAt c 0) v1
  have t2 : SF.FTab K w mg "TESTS" SF.tTests := tab_ok (glo_ok X G (fact c 5 (.glo "TESTS"))) (tabAt c 1) v2
  have t3 : SF.FTab K w mg "CALLS" SF.tCalls := tab_ok (glo_ok X G (fact c 4 (.glo "CALLS"))) (tabAt c 2) v3
  have t4 : SF.FTab K w mg "SIMPLES" SF.tSim := tab_ok (glo_ok X G (fact c 3 (.glo "SIMPLES"))) (tabAt c 3) v4
  obtain ⟨p1, xP⟩ := ba xP
  obtain ⟨p2, xP⟩ := ba xP
  obtain ⟨p3, p4⟩ := ba xP
  have prop : PropOf K (ga K "Program") "classes" (ma K (ga K "Program") "classes") (getA K) := by
    refine ⟨eqO_ok p1, eqO_ok p2, of_decide_eq_true p3, ?_⟩
    unfold getA
    revert p4
    cases e : PySem.W.recIn K (ma K (ga K "Program") "classes") "property" with
    | none => intro p4; cases p4
    | some l =>
      cases l with
      | nil => intro p4; cases p4
      | cons a r =>
        cases a with
        | ref g => exact fun _ => ⟨r, rfl⟩
        | _ => intro p4; cases p4
  obtain ⟨q1, xA⟩ := ba xA
  obtain ⟨q2, xA⟩ := ba xA
  obtain ⟨q3, xA⟩ := ba xA
  obtain ⟨q4, xA⟩ := ba xA
  obtain ⟨q5, xA⟩ := ba xA
  obtain ⟨q6, xA⟩ := ba xA
  obtain ⟨q7, xA⟩ := ba xA
  obtain ⟨q8, q9⟩ := ba xA
  obtain ⟨s1, xS⟩ := ba xS
  obtain ⟨s2, xS⟩ := ba xS
  obtain ⟨s3, xS⟩ := ba xS
  obtain ⟨s4, s5⟩ := ba xS
  have XB : OexC K (ga K "BadProgram") := ⟨excB_ok q1, eqO_ok q2, of_decide_eq_true q3, of_decide_eq_true q4, q5⟩
  have iB : PySem.W.findIn K (.ref (ga K "BadProgram")) "__init__" = some (some (.ref (ma K (ga K "BadProgram") "__init__"))) := eqO_ok q6
  have tB : PySem.W.typeIn K (.ref (ma K (ga K "BadProgram") "__init__")) = some (.type "function") := of_decide_eq_true q7
  have nB : PySem.W.findIn K (.ref (ga K "BadProgram")) "part" = some none := eqO_ok q8
  have xB : XfC K (ga K "BadProgram") := xfB_ok q9
  have gB : mg "BadProgram" = some (.ref (ga K "BadProgram")) := glo_ok X G (fact c 25 (.glo "BadProgram"))
  obtain ⟨kpB, ocB, odB, kVB, docB, pmB, anB, cdvB, ctB, oslB, clB, ecl, lkB, hcdB⟩ := FnQ.get (K := K) (d := ⟨fun K => ma K (ga K "BadProgram") "__init__", "__init__", "BadProgram.__init__", defArgs SF.stBP, defBody SF.stBP, defScope SF.stBP, ["__class__"]⟩) (defAt c 38).1 (defAt c 38).2
  obtain ⟨ccB, rfl⟩ : ∃ cc : Addr, clB = [(Str.ofString "__class__", cc)] := by
    match clB, ecl with
    | [(n, a)], e =>
      have : n = "__class__" := (List.cons.inj e).1
      exact ⟨a, by rw [this]⟩
  dsimp only at lkB hcdB
  obtain ⟨cdaB, rfl⟩ : ∃ a, cdvB = .ref a := codeIn_ref hcdB
  have SB : G1.SupC K PR (ga K "BadProgram") (ma K (ga K "BadProgram") "__init__") ccB cdaB (PySem.W.ksFn "__init__" "BadProgram.__init__" (defArgs SF.stBP) (defBody SF.stBP) (defScope SF.stBP) .none kVB docB pmB anB (.ref cdaB) ctB ccB) := by
    unfold supB at s1
    rw [lkB] at s1
    dsimp only at s1
    split at s1
    · rename_i c1 d1 vs sl1 a1 b1 C1 e1 lc lcc
      obtain ⟨z1, z2⟩ := ba s1
      have eC := of_decide_eq_true z1
      subst eC
      split at z2
      · rename_i file tf ev
        exact ⟨excB_ok q1, ⟨_, _, _, lkB⟩, ⟨_, _, vs, _, file, tf, lc, ev, z2⟩, ⟨_, _, _, lcc⟩, of_decide_eq_true s2, eqO_ok s3, eqO_ok s4, of_decide_eq_true s5, by decide +kernel⟩
      · cases z2
    · cases s1
  suffices H : ∃ fd : FuncData, L2.Fun K "law" "law" (SF.topS 60) (ga K "law") fd ∧ ∀ base : Heap, K.In base → base.Ns mainGlobals mg → FnOk PR w K mg base CX0 10 (ga K "law") fd ["_law_script"] (SF.spLaw K) by
    obtain ⟨fd, F, H⟩ := H
    refine ⟨fd, fun s u => ?_, H⟩
    obtain ⟨oc, od, kV, doc, pm, an, cdv, ct, osl, rfl, lk, hcd⟩ := F.ex
    exact .of_eq rfl
  obtain ⟨fd__copy, F__copy⟩ := FnQ.fun0 (K := K) (st := (SF.topS 36)) (d := ⟨fun K => ga K "_copy", "_copy", "_copy", defArgs (SF.topS 36), defBody (SF.topS 36), defScope (SF.topS 36), []⟩) (defAt c 17).1 (defAt c 17).2 rfl rfl rfl rfl
  have b__copy : Binds K fd__copy ["value"] [] := F__copy.binds fun _ _ _ _ _ _ us hl => match us, hl with | [_], _ => rfl
  obtain ⟨fd__has_few_parts, F__has_few_parts⟩ := FnQ.fun0 (K := K) (st := (SF.topS 37)) (d := ⟨fun K => ga K "_has_few_parts", "_has_few_parts", "_has_few_parts", defArgs (SF.topS 37), defBody (SF.topS 37), defScope (SF.topS 37), []⟩) (defAt c 18).1 (defAt c 18).2 rfl rfl rfl rfl
  have b__has_few_parts : Binds K fd__has_few_parts ["value"] [] := F__has_few_parts.binds fun _ _ _ _ _ _ us hl => match us, hl with | [_], _ => rfl
  obtain ⟨fd_copied, F_copied⟩ := FnQ.fun0 (K := K) (st := (SF.topS 35)) (d := ⟨fun K => ga K "copied", "copied", "copied", defArgs (SF.topS 35), defBody (SF.topS 35), defScope (SF.topS 35), []⟩) (defAt c 16).1 (defAt c 16).2 rfl rfl rfl rfl
  have b_copied : Binds K fd_copied ["value"] [] := F_copied.binds fun _ _ _ _ _ _ us hl => match us, hl with | [_], _ => rfl
  obtain ⟨fd_is_name, F_is_name⟩ := FnQ.fun0 (K := K) (st := (SF.topS 2)) (d := ⟨fun K => ga K "is_name", "is_name", "is_name", defArgs (SF.topS 2), defBody (SF.topS 2), defScope (SF.topS 2), []⟩) (defAt c 0).1 (defAt c 0).2 rfl rfl rfl rfl
  have b_is_name : Binds K fd_is_name ["thing"] [] := F_is_name.binds fun _ _ _ _ _ _ us hl => match us, hl with | [_], _ => rfl
  obtain ⟨fd_is_names, F_is_names⟩ := FnQ.fun0 (K := K) (st := (SF.topS 3)) (d := ⟨fun K => ga K "is_names", "is_names", "is_names", defArgs (SF.topS 3), defBody (SF.topS 3), defScope (SF.topS 3), []⟩) (defAt c 1).1 (defAt c 1).2 rfl rfl rfl rfl
  have b_is_names : Binds K fd_is_names ["thing", "least", "most"] [] := F_is_names.binds fun _ _ _ _ _ _ us hl => match us, hl with | [_, _, _], _ => rfl
  obtain ⟨fd_is_name_dict, F_is_name_dict⟩ := FnQ.fun0 (K := K) (st := (SF.topS 4)) (d := ⟨fun K => ga K "is_name_dict", "is_name_dict", "is_name_dict", defArgs (SF.topS 4), defBody (SF.topS 4), defScope (SF.topS 4), []⟩) (defAt c 2).1 (defAt c 2).2 rfl rfl rfl rfl
  have b_is_name_dict : Binds K fd_is_name_dict ["thing", "most"] [] := F_is_name_dict.binds fun _ _ _ _ _ _ us hl => match us, hl with | [_, _], _ => rfl
  obtain ⟨fd_Place___init__, F_Place___init__⟩ := FnQ.fun0 (K := K) (st := (inClass (SF.topS 15) 0)) (d := ⟨fun K => ma K (ga K "Place") "__init__", "__init__", "Place.__init__", defArgs (inClass (SF.topS 15) 0), defBody (inClass (SF.topS 15) 0), defScope (inClass (SF.topS 15) 0), []⟩) (defAt c 35).1 (defAt c 35).2 rfl rfl rfl rfl
  have b_Place___init__ : Binds K fd_Place___init__ ["self", "new_classes", "own_fields", "in_method", "has_parent"] [] := F_Place___init__.binds fun _ _ _ _ _ _ us hl => match us, hl with | [_, _, _, _, _], _ => rfl
  obtain ⟨fd__may_stand, F__may_stand⟩ := FnQ.fun0 (K := K) (st := (SF.topS 22)) (d := ⟨fun K => ga K "_may_stand", "_may_stand", "_may_stand", defArgs (SF.topS 22), defBody (SF.topS 22), defScope (SF.topS 22), []⟩) (defAt c 9).1 (defAt c 9).2 rfl rfl rfl rfl
  have b__may_stand : Binds K fd__may_stand ["word", "returns", "place"] [] := F__may_stand.binds fun _ _ _ _ _ _ us hl => match us, hl with | [_, _, _], _ => rfl
  obtain ⟨fd_form_of, F_form_of⟩ := FnQ.fun0 (K := K) (st := (SF.topS 21)) (d := ⟨fun K => ga K "form_of", "form_of", "form_of", defArgs (SF.topS 21), defBody (SF.topS 21), defScope (SF.topS 21), []⟩) (defAt c 8).1 (defAt c 8).2 rfl rfl rfl rfl
  have b_form_of : Binds K fd_form_of ["kind", "part"] [] := F_form_of.binds fun _ _ _ _ _ _ us hl => match us, hl with | [_, _], _ => rfl
  obtain ⟨fd__is_leaf, F__is_leaf⟩ := FnQ.fun0 (K := K) (st := (SF.topS 18)) (d := ⟨fun K => ga K "_is_leaf", "_is_leaf", "_is_leaf", defArgs (SF.topS 18), defBody (SF.topS 18), defScope (SF.topS 18), []⟩) (defAt c 5).1 (defAt c 5).2 rfl rfl rfl rfl
  have b__is_leaf : Binds K fd__is_leaf ["kind", "part", "place"] [] := F__is_leaf.binds fun _ _ _ _ _ _ us hl => match us, hl with | [_, _, _], _ => rfl
  obtain ⟨fd__statements, F__statements⟩ := FnQ.fun0 (K := K) (st := (SF.topS 19)) (d := ⟨fun K => ga K "_statements", "_statements", "_statements", defArgs (SF.topS 19), defBody (SF.topS 19), defScope (SF.topS 19), []⟩) (defAt c 6).1 (defAt c 6).2 rfl rfl rfl rfl
  have b__statements : Binds K fd__statements ["block", "spot"] [] := F__statements.binds fun _ _ _ _ _ _ us hl => match us, hl with | [_, _], _ => rfl
  obtain ⟨fd__form_parts, F__form_parts⟩ := FnQ.fun0 (K := K) (st := (SF.topS 20)) (d := ⟨fun K => ga K "_form_parts", "_form_parts", "_form_parts", defArgs (SF.topS 20), defBody (SF.topS 20), defScope (SF.topS 20), []⟩) (defAt c 7).1 (defAt c 7).2 rfl rfl rfl rfl
  have b__form_parts : Binds K fd__form_parts ["kind", "part", "spot", "place"] [] := F__form_parts.binds fun _ _ _ _ _ _ us hl => match us, hl with | [_, _, _, _], _ => rfl
  obtain ⟨fd__inner_parts, F__inner_parts⟩ := FnQ.fun0 (K := K) (st := (SF.topS 17)) (d := ⟨fun K => ga K "_inner_parts", "_inner_parts", "_inner_parts", defArgs (SF.topS 17), defBody (SF.topS 17), defScope (SF.topS 17), []⟩) (defAt c 4).1 (defAt c 4).2 rfl rfl rfl rfl
  have b__inner_parts : Binds K fd__inner_parts ["kind", "part", "spot", "place"] [] := F__inner_parts.binds fun _ _ _ _ _ _ us hl => match us, hl with | [_, _, _, _], _ => rfl
  obtain ⟨fd_is_block, F_is_block⟩ := FnQ.fun0 (K := K) (st := (SF.topS 16)) (d := ⟨fun K => ga K "is_block", "is_block", "is_block", defArgs (SF.topS 16), defBody (SF.topS 16), defScope (SF.topS 16), []⟩) (defAt c 3).1 (defAt c 3).2 rfl rfl rfl rfl
  have b_is_block : Binds K fd_is_block ["thing", "place"] [] := F_is_block.binds fun _ _ _ _ _ _ us hl => match us, hl with | [_, _], _ => rfl
  obtain ⟨fd__is_method, F__is_method⟩ := FnQ.fun0 (K := K) (st := (SF.topS 32)) (d := ⟨fun K => ga K "_is_method", "_is_method", "_is_method", defArgs (SF.topS 32), defBody (SF.topS 32), defScope (SF.topS 32), []⟩) (defAt c 15).1 (defAt c 15).2 rfl rfl rfl rfl
  have b__is_method : Binds K fd__is_method ["thing"] [] := F__is_method.binds fun _ _ _ _ _ _ us hl => match us, hl with | [_], _ => rfl
  obtain ⟨fd__is_fields, F__is_fields⟩ := FnQ.fun0 (K := K) (st := (SF.topS 30)) (d := ⟨fun K => ga K "_is_fields", "_is_fields", "_is_fields", defArgs (SF.topS 30), defBody (SF.topS 30), defScope (SF.topS 30), []⟩) (defAt c 13).1 (defAt c 13).2 rfl rfl rfl rfl
  have b__is_fields : Binds K fd__is_fields ["thing"] [] := F__is_fields.binds fun _ _ _ _ _ _ us hl => match us, hl with | [_], _ => rfl
  obtain ⟨fd__is_methods, F__is_methods⟩ := FnQ.fun0 (K := K) (st := (SF.topS 31)) (d := ⟨fun K => ga K "_is_methods", "_is_methods", "_is_methods", defArgs (SF.topS 31), defBody (SF.topS 31), defScope (SF.topS 31), []⟩) (defAt c 14).1 (defAt c 14).2 rfl rfl rfl rfl
  have b__is_methods : Binds K fd__is_methods ["thing"] [] := F__is_methods.binds fun _ _ _ _ _ _ us hl => match us, hl with | [_], _ => rfl
  obtain ⟨fd_is_class_form, F_is_class_form⟩ := FnQ.fun0 (K := K) (st := (SF.topS 27)) (d := ⟨fun K => ga K "is_class_form", "is_class_form", "is_class_form", defArgs (SF.topS 27), defBody (SF.topS 27), defScope (SF.topS 27), []⟩) (defAt c 10).1 (defAt c 10).2 rfl rfl rfl rfl
  have b_is_class_form : Binds K fd_is_class_form ["thing"] [] := F_is_class_form.binds fun _ _ _ _ _ _ us hl => match us, hl with | [_], _ => rfl
  obtain ⟨fd__has_parent_among, F__has_parent_among⟩ := FnQ.fun0 (K := K) (st := (SF.topS 47)) (d := ⟨fun K => ga K "_has_parent_among", "_has_parent_among", "_has_parent_among", defArgs (SF.topS 47), defBody (SF.topS 47), defScope (SF.topS 47), []⟩) (defAt c 22).1 (defAt c 22).2 rfl rfl rfl rfl
  have b__has_parent_among : Binds K fd__has_parent_among ["cls", "classes"] [] := F__has_parent_among.binds fun _ _ _ _ _ _ us hl => match us, hl with | [_, _], _ => rfl
  obtain ⟨fd__has_ring, F__has_ring⟩ := FnQ.fun0 (K := K) (st := (SF.topS 48)) (d := ⟨fun K => ga K "_has_ring", "_has_ring", "_has_ring", defArgs (SF.topS 48), defBody (SF.topS 48), defScope (SF.topS 48), []⟩) (defAt c 23).1 (defAt c 23).2 rfl rfl rfl rfl
  have b__has_ring : Binds K fd__has_ring ["classes"] [] := F__has_ring.binds fun _ _ _ _ _ _ us hl => match us, hl with | [_], _ => rfl
  obtain ⟨fd__is_classes, F__is_classes⟩ := FnQ.fun0 (K := K) (st := (SF.topS 46)) (d := ⟨fun K => ga K "_is_classes", "_is_classes", "_is_classes", defArgs (SF.topS 46), defBody (SF.topS 46), defScope (SF.topS 46), []⟩) (defAt c 21).1 (defAt c 21).2 rfl rfl rfl rfl
  have b__is_classes : Binds K fd__is_classes ["thing"] [] := F__is_classes.binds fun _ _ _ _ _ _ us hl => match us, hl with | [_], _ => rfl
  obtain ⟨fd_bad_method, F_bad_method⟩ := FnQ.fun0 (K := K) (st := (SF.topS 28)) (d := ⟨fun K => ga K "bad_method", "bad_method", "bad_method", defArgs (SF.topS 28), defBody (SF.topS 28), defScope (SF.topS 28), []⟩) (defAt c 11).1 (defAt c 11).2 rfl rfl rfl rfl
  have b_bad_method : Binds K fd_bad_method ["cls", "new_classes"] [] := F_bad_method.binds fun _ _ _ _ _ _ us hl => match us, hl with | [_, _], _ => rfl
  obtain ⟨fd__wrong_part, F__wrong_part⟩ := FnQ.fun0 (K := K) (st := (SF.topS 45)) (d := ⟨fun K => ga K "_wrong_part", "_wrong_part", "_wrong_part", defArgs (SF.topS 45), defBody (SF.topS 45), defScope (SF.topS 45), []⟩) (defAt c 20).1 (defAt c 20).2 rfl rfl rfl rfl
  have b__wrong_part : Binds K fd__wrong_part ["classes", "body"] [] := F__wrong_part.binds fun _ _ _ _ _ _ us hl => match us, hl with | [_, _], _ => rfl
  obtain ⟨fd_copied_class, F_copied_class⟩ := FnQ.fun0 (K := K) (st := (SF.topS 29)) (d := ⟨fun K => ga K "copied_class", "copied_class", "copied_class", defArgs (SF.topS 29), defBody (SF.topS 29), defScope (SF.topS 29), []⟩) (defAt c 12).1 (defAt c 12).2 rfl rfl rfl rfl
  have b_copied_class : Binds K fd_copied_class ["cls"] [] := F_copied_class.binds fun _ _ _ _ _ _ us hl => match us, hl with | [_], _ => rfl
  obtain ⟨fd__copied_classes, F__copied_classes⟩ := FnQ.fun0 (K := K) (st := (SF.topS 44)) (d := ⟨fun K => ga K "_copied_classes", "_copied_classes", "_copied_classes", defArgs (SF.topS 44), defBody (SF.topS 44), defScope (SF.topS 44), []⟩) (defAt c 19).1 (defAt c 19).2 rfl rfl rfl rfl
  have b__copied_classes : Binds K fd__copied_classes ["classes"] [] := F__copied_classes.binds fun _ _ _ _ _ _ us hl => match us, hl with | [_], _ => rfl
  obtain ⟨fd_Program___init__, F_Program___init__⟩ := FnQ.fun0 (K := K) (st := (inClass (SF.topS 43) 0)) (d := ⟨fun K => ma K (ga K "Program") "__init__", "__init__", "Program.__init__", defArgs (inClass (SF.topS 43) 0), defBody (inClass (SF.topS 43) 0), defScope (inClass (SF.topS 43) 0), []⟩) (defAt c 36).1 (defAt c 36).2 rfl rfl rfl rfl
  have b_Program___init__ : Binds K fd_Program___init__ ["self", "classes", "body"] [] := F_Program___init__.binds fun _ _ _ _ _ _ us hl => match us, hl with | [_, _, _], _ => rfl
  obtain ⟨fd_Program_classes, F_Program_classes⟩ := FnQ.fun0 (K := K) (st := (inClass (SF.topS 43) 1)) (d := ⟨getA, "classes", "Program.classes", defArgs (inClass (SF.topS 43) 1), defBody (inClass (SF.topS 43) 1), defScope (inClass (SF.topS 43) 1), []⟩) (defAt c 37).1 (defAt c 37).2 rfl rfl rfl rfl
  have b_Program_classes : Binds K fd_Program_classes ["self"] [] := F_Program_classes.binds fun _ _ _ _ _ _ us hl => match us, hl with | [_], _ => rfl
  obtain ⟨fd__law_mix, F__law_mix⟩ := FnQ.fun0 (K := K) (st := (SF.topS 50)) (d := ⟨fun K => ga K "_law_mix", "_law_mix", "_law_mix", defArgs (SF.topS 50), defBody (SF.topS 50), defScope (SF.topS 50), []⟩) (defAt c 24).1 (defAt c 24).2 rfl rfl rfl rfl
  have b__law_mix : Binds K fd__law_mix ["_law_seed", "_law_cell"] [] := F__law_mix.binds fun _ _ _ _ _ _ us hl => match us, hl with | [_, _], _ => rfl
  obtain ⟨fd__law_draw, F__law_draw⟩ := FnQ.fun0 (K := K) (st := (SF.topS 52)) (d := ⟨fun K => ga K "_law_draw", "_law_draw", "_law_draw", defArgs (SF.topS 52), defBody (SF.topS 52), defScope (SF.topS 52), []⟩) (defAt c 26).1 (defAt c 26).2 rfl rfl rfl rfl
  have b__law_draw : Binds K fd__law_draw ["_law_state", "_law_many"] [] := F__law_draw.binds fun _ _ _ _ _ _ us hl => match us, hl with | [_, _], _ => rfl
  obtain ⟨fd__law_start, F__law_start⟩ := FnQ.fun0 (K := K) (st := (SF.topS 51)) (d := ⟨fun K => ga K "_law_start", "_law_start", "_law_start", defArgs (SF.topS 51), defBody (SF.topS 51), defScope (SF.topS 51), []⟩) (defAt c 25).1 (defAt c 25).2 rfl rfl rfl rfl
  have b__law_start : Binds K fd__law_start ["_law_script"] [] := F__law_start.binds fun _ _ _ _ _ _ us hl => match us, hl with | [_], _ => rfl
  obtain ⟨fd__law_nest, F__law_nest⟩ := FnQ.fun0 (K := K) (st := (SF.topS 58)) (d := ⟨fun K => ga K "_law_nest", "_law_nest", "_law_nest", defArgs (SF.topS 58), defBody (SF.topS 58), defScope (SF.topS 58), []⟩) (defAt c 32).1 (defAt c 32).2 rfl rfl rfl rfl
  have b__law_nest : Binds K fd__law_nest ["_law_block", "_law_way"] [] := F__law_nest.binds fun _ _ _ _ _ _ us hl => match us, hl with | [_, _], _ => rfl
  obtain ⟨fd__law_with, F__law_with⟩ := FnQ.fun0 (K := K) (st := (SF.topS 56)) (d := ⟨fun K => ga K "_law_with", "_law_with", "_law_with", defArgs (SF.topS 56), defBody (SF.topS 56), defScope (SF.topS 56), []⟩) (defAt c 30).1 (defAt c 30).2 rfl rfl rfl rfl
  have b__law_with : Binds K fd__law_with ["_law_state", "_law_one"] [] := F__law_with.binds fun _ _ _ _ _ _ us hl => match us, hl with | [_, _], _ => rfl
  obtain ⟨fd__law_simple, F__law_simple⟩ := FnQ.fun0 (K := K) (st := (SF.topS 54)) (d := ⟨fun K => ga K "_law_simple", "_law_simple", "_law_simple", defArgs (SF.topS 54), defBody (SF.topS 54), defScope (SF.topS 54), []⟩) (defAt c 28).1 (defAt c 28).2 rfl rfl rfl rfl
  have b__law_simple : Binds K fd__law_simple ["_law_state", "_law_kind"] [] := F__law_simple.binds fun _ _ _ _ _ _ us hl => match us, hl with | [_, _], _ => rfl
  obtain ⟨fd__law_simple_fits, F__law_simple_fits⟩ := FnQ.fun0 (K := K) (st := (SF.topS 55)) (d := ⟨fun K => ga K "_law_simple_fits", "_law_simple_fits", "_law_simple_fits", defArgs (SF.topS 55), defBody (SF.topS 55), defScope (SF.topS 55), []⟩) (defAt c 29).1 (defAt c 29).2 rfl rfl rfl rfl
  have b__law_simple_fits : Binds K fd__law_simple_fits ["_law_one", "_law_box_here", "_law_in_method"] [] := F__law_simple_fits.binds fun _ _ _ _ _ _ us hl => match us, hl with | [_, _, _], _ => rfl
  obtain ⟨fd__law_box, F__law_box⟩ := FnQ.fun0 (K := K) (st := (SF.topS 53)) (d := ⟨fun K => ga K "_law_box", "_law_box", "_law_box", defArgs (SF.topS 53), defBody (SF.topS 53), defScope (SF.topS 53), []⟩) (defAt c 27).1 (defAt c 27).2 rfl rfl rfl rfl
  have b__law_box : Binds K fd__law_box ["_law_state"] [] := F__law_box.binds fun _ _ _ _ _ _ us hl => match us, hl with | [_], _ => rfl
  obtain ⟨fd__law_case, F__law_case⟩ := FnQ.fun0 (K := K) (st := (SF.topS 57)) (d := ⟨fun K => ga K "_law_case", "_law_case", "_law_case", defArgs (SF.topS 57), defBody (SF.topS 57), defScope (SF.topS 57), []⟩) (defAt c 31).1 (defAt c 31).2 rfl rfl rfl rfl
  have b__law_case : Binds K fd__law_case ["_law_state", "_law_box_here", "_law_in_method", "_law_in_function"] [] := F__law_case.binds fun _ _ _ _ _ _ us hl => match us, hl with | [_, _, _, _], _ => rfl
  obtain ⟨fd__law_placed, F__law_placed⟩ := FnQ.fun0 (K := K) (st := (SF.topS 59)) (d := ⟨fun K => ga K "_law_placed", "_law_placed", "_law_placed", defArgs (SF.topS 59), defBody (SF.topS 59), defScope (SF.topS 59), []⟩) (defAt c 33).1 (defAt c 33).2 rfl rfl rfl rfl
  have b__law_placed : Binds K fd__law_placed ["_law_state", "_law_box_here", "_law_in_method"] [] := F__law_placed.binds fun _ _ _ _ _ _ us hl => match us, hl with | [_, _, _], _ => rfl
  obtain ⟨fd_law, F_law⟩ := FnQ.fun0 (K := K) (st := (SF.topS 60)) (d := ⟨fun K => ga K "law", "law", "law", defArgs (SF.topS 60), defBody (SF.topS 60), defScope (SF.topS 60), []⟩) (defAt c 34).1 (defAt c 34).2 rfl rfl rfl rfl
  have b_law : Binds K fd_law ["_law_script"] [] := F_law.binds fun _ _ _ _ _ _ us hl => match us, hl with | [_], _ => rfl
  refine ⟨fd_law, F_law, fun base hb hbn => ?_⟩
  have c__copy : C8.Cal PR w K mg base 1 "_copy" (SF.spCp) [] := ⟨_, _, _, [], SF.ok_copy T.toTxt F__copy, glo_ok X G (fact c 22 (.glo "_copy")), F__copy.kp, b__copy, .nil⟩
  have c__has_few_parts : C8.Cal PR w K mg base 1 "_has_few_parts" (SF.spFew) [] := ⟨_, _, _, [], SF.ok_few T.toTxt F__has_few_parts, glo_ok X G (fact c 23 (.glo "_has_few_parts")), F__has_few_parts.kp, b__has_few_parts, .nil⟩
  have c_copied : C8.Cal PR w K mg base 2 "copied" (SF.spCp) [] := ⟨_, _, _, [], SF.ok_copied T.toTxt c__copy c__has_few_parts F_copied, glo_ok X G (fact c 21 (.glo "copied")), F_copied.kp, b_copied, .nil⟩
  have c_is_name : C8.Cal PR w K mg base 1 "is_name" (SF.spIsName K) [] := ⟨_, _, _, [], SF.ok_is_name T.toTxt F_is_name, glo_ok X G (fact c 0 (.glo "is_name")), F_is_name.kp, b_is_name, .nil⟩
  have c_is_names : C8.Cal PR w K mg base 2 "is_names" (SF.spIsNames K) [] := ⟨_, _, _, [], SF.ok_is_names T.toTxt c_is_name F_is_names, glo_ok X G (fact c 1 (.glo "is_names")), F_is_names.kp, b_is_names, .nil⟩
  have c_is_name_dict : C8.Cal PR w K mg base 2 "is_name_dict" (SF.spNameDict K) [] := ⟨_, _, _, [], SF.ok_is_name_dict T.toTxt c_is_name F_is_name_dict, glo_ok X G (fact c 2 (.glo "is_name_dict")), F_is_name_dict.kp, b_is_name_dict, .nil⟩
  have c_Place : C8.Mak PR w K mg base 1 "Place" (ga K "Place") (SF.spPlace (ga K "Place")) [] := ⟨_, _, _, [], mkr_ok (fact c 72 (.mkr "Place")), SF.ok_Place T.toTxt plc F_Place___init__, glo_ok X G (fact c 7 (.glo "Place")), b_Place___init__, .nil⟩
  have c__may_stand : C8.Cal PR w K mg base 1 "_may_stand" (SF.spMay (ga K "Place")) [] := ⟨_, _, _, [], SF.ok_may T.toTxt plc F__may_stand, glo_ok X G (fact c 14 (.glo "_may_stand")), F__may_stand.kp, b__may_stand, .nil⟩
  have c_form_of : C8.Cal PR w K mg base 1 "form_of" (SF.spForm K) [] := ⟨_, _, _, [], SF.ok_form T.toTxt t1 t2 t3 t4 F_form_of, glo_ok X G (fact c 13 (.glo "form_of")), F_form_of.kp, b_form_of, .nil⟩
  have c__is_leaf : C8.Cal PR w K mg base 3 "_is_leaf" (SF.spLeaf K (ga K "Place")) [] := ⟨_, _, _, [], SF.ok_leaf T.toTxt plc c_is_name c_is_names F__is_leaf, glo_ok X G (fact c 10 (.glo "_is_leaf")), F__is_leaf.kp, b__is_leaf, .nil⟩
  have c__statements : C8.Cal PR w K mg base 1 "_statements" (SF.spStm K) [] := ⟨_, _, _, [], SF.ok_stm T.toTxt F__statements, glo_ok X G (fact c 11 (.glo "_statements")), F__statements.kp, b__statements, .nil⟩
  have c__form_parts : C8.Cal PR w K mg base 2 "_form_parts" (SF.spParts K (ga K "Place")) [] := ⟨_, _, _, [], SF.ok_parts T.toTxt plc c_form_of c__may_stand F__form_parts, glo_ok X G (fact c 12 (.glo "_form_parts")), F__form_parts.kp, b__form_parts, .nil⟩
  have c__inner_parts : C8.Cal PR w K mg base 4 "_inner_parts" (SF.spInner K (ga K "Place")) [] := ⟨_, _, _, [], SF.ok_inner T.toTxt plc c__is_leaf c__statements c__form_parts F__inner_parts, glo_ok X G (fact c 9 (.glo "_inner_parts")), F__inner_parts.kp, b__inner_parts, .nil⟩
  have c_is_block : C8.Cal PR w K mg base 5 "is_block" (SF.spBlock K (ga K "Place")) [] := ⟨_, _, _, [], SF.ok_block T.toTxt plc c__inner_parts F_is_block, glo_ok X G (fact c 8 (.glo "is_block")), F_is_block.kp, b_is_block, .nil⟩
  have c__is_method : C8.Cal PR w K mg base 3 "_is_method" (SF.spMeth K) [] := ⟨_, _, _, [], SF.ok_is_method T.toTxt c_is_names F__is_method, glo_ok X G (fact c 20 (.glo "_is_method")), F__is_method.kp, b__is_method, .nil⟩
  have c__is_fields : C8.Cal PR w K mg base 3 "_is_fields" (SF.spDict K SF.fieldsB) [] := ⟨_, _, _, [], SF.ok_is_fields T.toTxt c_is_names c_is_name_dict F__is_fields, glo_ok X G (fact c 18 (.glo "_is_fields")), F__is_fields.kp, b__is_fields, .nil⟩
  have c__is_methods : C8.Cal PR w K mg base 4 "_is_methods" (SF.spDict K SF.methsB) [] := ⟨_, _, _, [], SF.ok_is_methods T.toTxt c__is_method c_is_name_dict F__is_methods, glo_ok X G (fact c 19 (.glo "_is_methods")), F__is_methods.kp, b__is_methods, .nil⟩
  have c_is_class_form : C8.Cal PR w K mg base 5 "is_class_form" (SF.spClass K) [] := ⟨_, _, _, [], SF.ok_is_class T.toTxt c_is_name c__is_fields c__is_methods F_is_class_form, glo_ok X G (fact c 15 (.glo "is_class_form")), F_is_class_form.kp, b_is_class_form, .nil⟩
  have c__has_parent_among : C8.Cal PR w K mg base 1 "_has_parent_among" (SF.spAmong K) [] := ⟨_, _, _, [], SF.ok_among T.toTxt F__has_parent_among, glo_ok X G (fact c 30 (.glo "_has_parent_among")), F__has_parent_among.kp, b__has_parent_among, .nil⟩
  have c__has_ring : C8.Cal PR w K mg base 1 "_has_ring" (SF.spRing K) [] := ⟨_, _, _, [], SF.ok_ring T.toTxt F__has_ring, glo_ok X G (fact c 31 (.glo "_has_ring")), F__has_ring.kp, b__has_ring, .nil⟩
  have c__is_classes : C8.Cal PR w K mg base 6 "_is_classes" (SF.spClasses K) [] := ⟨_, _, _, [], SF.ok_classes T.toTxt c_is_name_dict c_is_class_form c__has_parent_among c__has_ring F__is_classes, glo_ok X G (fact c 29 (.glo "_is_classes")), F__is_classes.kp, b__is_classes, .nil⟩
  have c_bad_method : C8.Cal PR w K mg base 6 "bad_method" (SF.spBadM K) [] := ⟨_, _, _, [], SF.ok_badm T.toTxt c_Place c_is_block F_bad_method, glo_ok X G (fact c 16 (.glo "bad_method")), F_bad_method.kp, b_bad_method, .nil⟩
  have c__wrong_part : C8.Cal PR w K mg base 7 "_wrong_part" (SF.spWrong K) [] := ⟨_, _, _, [], SF.ok_wrong T.toTxt c__is_classes c_bad_method c_Place c_is_block F__wrong_part, glo_ok X G (fact c 28 (.glo "_wrong_part")), F__wrong_part.kp, b__wrong_part, .nil⟩
  have c_copied_class : C8.Cal PR w K mg base 1 "copied_class" (SF.spCC K) [] := ⟨_, _, _, [], SF.ok_cc T.toTxt F_copied_class, glo_ok X G (fact c 17 (.glo "copied_class")), F_copied_class.kp, b_copied_class, .nil⟩
  have c__copied_classes : C8.Cal PR w K mg base 2 "_copied_classes" (SF.spCopyC K) [] := ⟨_, _, _, [], SF.ok_copyC T.toTxt c_copied_class F__copied_classes, glo_ok X G (fact c 27 (.glo "_copied_classes")), F__copied_classes.kp, b__copied_classes, .nil⟩
  have GB := SF.ok_BP (P := PR) (w := w) (base := base) T.toTxt c_copied XB nB SB hcdB
  have bB : Binds K _ ["self", "part"] [] := Binds.all (fd := PySem.W.ksFn "__init__" "BadProgram.__init__" (defArgs SF.stBP) (defBody SF.stBP) (defScope SF.stBP) .none kVB docB pmB anB (.ref cdaB) ctB ccB) fun us hl => match us, hl with | [_, _], _ => rfl
  have GP := SF.ok_Prog T.toTxt pgc c__wrong_part c__copied_classes XB iB tB GB bB gB F_Program___init__
  have GG := SF.ok_get T.toTxt pgc c__copied_classes F_Program_classes
  have LC : SF.LawC PR w K mg base (ga K "Program") (ga K "BadProgram") := ⟨pgc, glo_ok X G (fact c 26 (.glo "Program")), ⟨_, _, mkr_ok (fact c 76 (.mkr "Program")), GP, b_Program___init__⟩, ⟨_, _, _, prop, GG, b_Program_classes⟩, gB, xB, nB, exm_ok (fact c 77 (.exm "BadProgram" "BadProgram" true))⟩
  have c__law_mix : C8.Cal PR w K mg base 1 "_law_mix" (SF.spMix) [] := ⟨_, _, _, [], SF.ok_mix T F__law_mix, glo_ok X G (fact c 32 (.glo "_law_mix")), F__law_mix.kp, b__law_mix, .nil⟩
  have c__law_draw : C8.Cal PR w K mg base 2 "_law_draw" (SF.spDraw) [] := ⟨_, _, _, [], SF.ok_draw T c__law_mix F__law_draw, glo_ok X G (fact c 34 (.glo "_law_draw")), F__law_draw.kp, b__law_draw, .nil⟩
  have c__law_start : C8.Cal PR w K mg base 1 "_law_start" (SF.spStart K) [] := ⟨_, _, _, [], SF.ok_lstart T F__law_start, glo_ok X G (fact c 33 (.glo "_law_start")), F__law_start.kp, b__law_start, .nil⟩
  have c__law_nest : C8.Cal PR w K mg base 1 "_law_nest" (SF.spNest K) [] := ⟨_, _, _, [], SF.ok_lnest T F__law_nest, glo_ok X G (fact c 40 (.glo "_law_nest")), F__law_nest.kp, b__law_nest, .nil⟩
  have c__law_with : C8.Cal PR w K mg base 3 "_law_with" (SF.spWith K) [] := ⟨_, _, _, [], SF.ok_lwith T c__law_draw F__law_with, glo_ok X G (fact c 38 (.glo "_law_with")), F__law_with.kp, b__law_with, .nil⟩
  have c__law_simple : C8.Cal PR w K mg base 3 "_law_simple" (SF.spSimple K) [] := ⟨_, _, _, [], SF.ok_lsimple T c__law_draw F__law_simple, glo_ok X G (fact c 36 (.glo "_law_simple")), F__law_simple.kp, b__law_simple, .nil⟩
  have c__law_simple_fits : C8.Cal PR w K mg base 1 "_law_simple_fits" (SF.spFits K) [] := ⟨_, _, _, [], SF.ok_lfits T F__law_simple_fits, glo_ok X G (fact c 37 (.glo "_law_simple_fits")), F__law_simple_fits.kp, b__law_simple_fits, .nil⟩
  have c__law_box : C8.Cal PR w K mg base 3 "_law_box" (SF.spBox K) [] := ⟨_, _, _, [], SF.ok_lbox T c__law_draw F__law_box, glo_ok X G (fact c 35 (.glo "_law_box")), F__law_box.kp, b__law_box, .nil⟩
  have c__law_case : C8.Cal PR w K mg base 4 "_law_case" (SF.spCase K) [] := ⟨_, _, _, [], SF.ok_lcase T c__law_draw c__law_simple c__law_with c__law_simple_fits F__law_case, glo_ok X G (fact c 39 (.glo "_law_case")), F__law_case.kp, b__law_case, .nil⟩
  have c__law_placed : C8.Cal PR w K mg base 5 "_law_placed" (SF.spPlaced K) [] := ⟨_, _, _, [], SF.ok_lplaced T c__law_draw c__law_case c__law_nest F__law_placed, glo_ok X G (fact c 41 (.glo "_law_placed")), F__law_placed.kp, b__law_placed, .nil⟩
  exact SF.ok_law T LC c__law_start c__law_box c__law_placed F_law
end
end HK

set_option Elab.async false
set_option linter.all false
set_option maxRecDepth 1000000
set_option maxHeartbeats 0
namespace HK
open PySem PySem.Spec PyProof.Rows L2 He G5
theorem runF (w : World) : HandSHeadRun.RunEq R (PySem.W.view R.prog [60]) hk ob 8000 loose (w.withFollow "special-get-raises" false) := by
  intro os
  kernel_rfl
theorem runT (w : World) : HandSHeadRun.RunEq R (PySem.W.view R.prog [60]) hk ob 8000 loose (w.withFollow "special-get-raises" true) := by
  intro os
  kernel_rfl
end HK

set_option Elab.async false
set_option linter.all false
set_option maxRecDepth 1000000
set_option maxHeartbeats 0
open PySem PySem.W PySem.Calls PyProof.Rows
theorem PySem.Challenge.cw_standsfor_k04_places_holds : PySem.Challenge.rw_standsfor_k04_places.Holds := by
  w_on; o_law
  refine HandSHeadRun.head_any (r := OpenLaw.row PySem.Challenge.rw_standsfor_k04_places) (q := view (OpenLaw.row PySem.Challenge.rw_standsfor_k04_places).prog [60]) (H := HK.hk) (ob := HK.ob) (M := 8000) (loose := HK.loose) (d := HandSHeadRun.topDef (OpenLaw.row PySem.Challenge.rw_standsfor_k04_places).prog 60) (kwd := []) HK.ob_eq
    (by kernel_rfl) (fun s => by kernel_rfl) (byRow2 "special-get-raises" HK.runF HK.runT) (by kernel_rfl) (by kernel_rfl) (by kernel_rfl) (by rfl) (by first | assumption | decide +kernel) (by decide +kernel) ⟨rfl, rfl, rfl, rfl, rfl, by decide +kernel⟩ ?hw ?hc
  case hw => w_witness2
  case hc =>
    refine L2.walk_ofE (l := PySem.Challenge.rw_standsfor_k04_places) (n := 63) (k := 10) (x := "_law_script") (CX := L2.CX0) rfl (by decide) (by kernel_rfl) ⟨rfl, by decide, by decide⟩ ?F (fun _ _ _ _ z => z)
    intro w mg fa h Y G hmg0
    obtain ⟨K, KX, c⟩ := Y
    have hmg : mg ("law" : PySem.Str) = some (.ref fa) := by
      have e : (HandSHeadRun.topDef (OpenLaw.row PySem.Challenge.rw_standsfor_k04_places).prog 60).name = ("law" : PySem.Str) := by kernel_rfl
      rw [← e]
      exact hmg0
    have e2 := hmg.symm.trans (He.glo_ok KX G (HK.fact c 42 (.glo "law")))
    cases e2
    obtain ⟨fd, hb, hF⟩ := HK.facts (w := w) KX G c
    exact ⟨K, fd, SF.spLaw K, KX, hb, fun H a ns hl _ hS => ⟨a, ns, rfl, hS, hl, fun _ => rfl⟩, hF⟩
